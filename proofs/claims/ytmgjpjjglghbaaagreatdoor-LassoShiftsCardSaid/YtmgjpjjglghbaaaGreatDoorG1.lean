/-
  Models: a reader of tokens that keeps the first error, part by part. Plain lists, nothing of the program.
-/
import Derived.Test.YtmgjpjjglghbaaaGreatDoorQW
namespace Go.Proofs.YtmgjpjjglghbaaaGreatDoor
structure DefO where
  nm : List UInt8
  x : Option Ex
  pos : Nat
structure VarO where
  nm : List UInt8
  isB : Bool
  low : Option Ex
  high : Option Ex
  ini : Option Ex
  has : Bool
  pos : Nat
structure BrO where
  wt : Nat
  sets : List DefO
  pos : Nat
structure CmdO where
  act : List UInt8
  guard : Option Ex
  brs : List BrO
  pos : Nat
structure ModO where
  nm : List UInt8
  vars : List VarO
  cmds : List CmdO
  pos : Nat
structure MdlO where
  consts : List DefO
  formulas : List DefO
  labels : List DefO
  mods : List ModO

/-- What is left to be read, or the first error. -/
inductive St where
  | good (us : List Tok)
  | bad (c p : Nat)
def St.hd : St → Tok
  | .good us => Go.Proofs.YtmgjpjjglghbaaaGreatDoor.hd us
  | .bad _ _ => ⟨0, [], 0⟩
def St.tl : St → St
  | .good us => .good us.tail
  | .bad c p => .bad c p
def St.fail (c : Nat) : St → St
  | .good us => .bad c (Go.Proofs.YtmgjpjjglghbaaaGreatDoor.hd us).pos
  | .bad c' p => .bad c' p
def St.len : St → Nat
  | .good us => us.length
  | .bad _ _ => 0
def St.Fine : St → Prop
  | .good us => Go.Proofs.YtmgjpjjglghbaaaGreatDoor.Fine us
  | .bad _ _ => True
def St.want (x : List UInt8) (st : St) : St := if isT st.hd x then st.tl else st.fail 20

def wMdp : List UInt8 := [109, 100, 112]
def wConst : List UInt8 := [99, 111, 110, 115, 116]
def wFormula : List UInt8 := [102, 111, 114, 109, 117, 108, 97]
def wLabel : List UInt8 := [108, 97, 98, 101, 108]
def wModule : List UInt8 := [109, 111, 100, 117, 108, 101]
def wEnd : List UInt8 := [101, 110, 100, 109, 111, 100, 117, 108, 101]
def wBool : List UInt8 := [98, 111, 111, 108]
def wInit : List UInt8 := [105, 110, 105, 116]
def isWd (x : List UInt8) : Bool := x == wMdp || x == wConst || x == wFormula || x == wLabel || x == wModule || x == wEnd || x == wBool || x == wInit || x == opTrue || x == opFalse
def isNm (t : Tok) : Bool := t.kind == 1 && !isWd t.text

def St.name (st : St) : (List UInt8 × Nat) × St := if isNm st.hd then ((st.hd.text, st.hd.pos), st.tl) else (([], 0), st.fail 20)
def St.text (st : St) : (List UInt8 × Nat) × St := if st.hd.kind = 3 then ((st.hd.text, st.hd.pos), st.tl) else (([], 0), st.fail 20)
def exprP : PR → Option Ex × St
  | .ok e r => (some e, .good r)
  | .er c p => (none, .bad c p)
def St.expr (D : Nat) : St → Option Ex × St
  | .good us => exprP ((dp D).c us)
  | .bad c p => (none, .bad c p)
def St.mean (D : Nat) (st : St) : Option Ex × St := (((st.want [61]).expr D).1, ((st.want [61]).expr D).2.want [59])
def St.defn (D : Nat) (st : St) : DefO × St := (⟨st.name.1.1, (st.name.2.mean D).1, st.name.1.2⟩, (st.name.2.mean D).2)
def St.labl (D : Nat) (st : St) : DefO × St := (⟨st.text.1.1, (st.text.2.mean D).1, st.text.1.2⟩, (st.text.2.mean D).2)
def St.low (D : Nat) (st : St) : Option Ex × St := (st.want [91]).expr D
def St.high (D : Nat) (st : St) : Option Ex × St := ((st.low D).2.want [46, 46]).expr D
def St.bnds (D : Nat) (st : St) : (Option Ex × Option Ex) × St := (((st.low D).1, (st.high D).1), (st.high D).2.want [93])
def St.vals (D : Nat) (st : St) : (Bool × Option Ex × Option Ex) × St := if isT st.hd wBool then ((true, none, none), st.tl) else ((false, (st.bnds D).1), (st.bnds D).2)
def St.init (D : Nat) (st : St) : (Option Ex × Bool) × St := if isT st.hd wInit then (((st.tl.expr D).1, true), (st.tl.expr D).2) else ((none, false), st)
def St.vrbl (D : Nat) (st : St) : VarO × St :=
  (⟨st.name.1.1, ((st.name.2.want [58]).vals D).1.1, ((st.name.2.want [58]).vals D).1.2.1, ((st.name.2.want [58]).vals D).1.2.2, (((st.name.2.want [58]).vals D).2.init D).1.1, (((st.name.2.want [58]).vals D).2.init D).1.2, st.name.1.2⟩, (((st.name.2.want [58]).vals D).2.init D).2.want [59])
def listF {α : Type} (p : Tok → Bool) (rd : St → α × St) : Nat → St → List α × St
  | 0, st => ([], st)
  | f + 1, st => if p st.hd then ((rd st).1 :: (listF p rd f (rd st).2).1, (listF p rd f (rd st).2).2) else ([], st)
def St.list {α : Type} (p : Tok → Bool) (rd : St → α × St) (st : St) : List α × St := listF p rd st.len st
def St.sett (D : Nat) (st : St) : DefO × St :=
  (⟨(st.want [40]).name.1.1, ((((st.want [40]).name.2.want [39]).want [61]).expr D).1, (st.want [40]).name.1.2⟩, ((((st.want [40]).name.2.want [39]).want [61]).expr D).2.want [41])
def St.wght (st : St) : Nat × St :=
  if st.hd.kind = 2 then (valOf st.hd.text, if valOf st.hd.text = 0 then .bad 33 st.hd.pos else st.tl.want [58]) else (1, st)
def St.sets (D : Nat) (st : St) : List DefO × St :=
  if isT st.hd opTrue then ([], st.tl) else ((st.sett D).1 :: ((st.sett D).2.list (fun t => isT t [38]) (fun s => s.tl.sett D)).1, ((st.sett D).2.list (fun t => isT t [38]) (fun s => s.tl.sett D)).2)
def St.brch (D : Nat) (st : St) : BrO × St := (⟨st.wght.1, (st.wght.2.sets D).1, st.hd.pos⟩, (st.wght.2.sets D).2)
def St.actn (st : St) : List UInt8 × St := if isT st.hd [93] then ([], st) else (st.name.1.1, st.name.2)
def St.guard (D : Nat) (st : St) : Option Ex × St := ((st.want [91]).actn.2.want [93]).expr D
def St.brchs (D : Nat) (st : St) : List BrO × St := ((st.brch D).1 :: ((st.brch D).2.list (fun t => isT t [43]) (fun s => s.tl.brch D)).1, ((st.brch D).2.list (fun t => isT t [43]) (fun s => s.tl.brch D)).2)
def St.cmnd (D : Nat) (st : St) : CmdO × St :=
  (⟨(st.want [91]).actn.1, (st.guard D).1, (((st.guard D).2.want [45, 62]).brchs D).1, st.hd.pos⟩, (((st.guard D).2.want [45, 62]).brchs D).2.want [59])
def St.vrbls (D : Nat) (st : St) : List VarO × St := st.name.2.list isNm (St.vrbl D)
def St.cmnds (D : Nat) (st : St) : List CmdO × St := (st.vrbls D).2.list (fun t => isT t [91]) (St.cmnd D)
def St.modl (D : Nat) (st : St) : ModO × St := (⟨st.name.1.1, (st.vrbls D).1, (st.cmnds D).1, st.name.1.2⟩, (st.cmnds D).2.want wEnd)
def constsL (D : Nat) (st : St) : List DefO × St := st.list (fun t => isT t wConst) (fun s => s.tl.defn D)
def formsL (D : Nat) (st : St) : List DefO × St := st.list (fun t => isT t wFormula) (fun s => s.tl.defn D)
def lablsL (D : Nat) (st : St) : List DefO × St := st.list (fun t => isT t wLabel) (fun s => s.tl.labl D)
def modsL (D : Nat) (st : St) : List ModO × St := st.list (fun t => isT t wModule) (fun s => s.tl.modl D)
def St.items (D : Nat) (m : MdlO) (st : St) : MdlO × St :=
  if isT st.hd wConst then ({ m with consts := m.consts ++ (constsL D st).1 }, (constsL D st).2)
  else if isT st.hd wFormula then ({ m with formulas := m.formulas ++ (formsL D st).1 }, (formsL D st).2)
  else if isT st.hd wLabel then ({ m with labels := m.labels ++ (lablsL D st).1 }, (lablsL D st).2)
  else if isT st.hd wModule then ({ m with mods := m.mods ++ (modsL D st).1 }, (modsL D st).2)
  else (m, st.fail 20)
def mdlF (D : Nat) : Nat → MdlO → St → MdlO × St
  | 0, m, st => (m, st)
  | f + 1, m, st => if st.hd.kind = 0 then (m, st) else mdlF D f (st.items D m).1 (st.items D m).2
def St.mdlOn (D : Nat) (m : MdlO) (st : St) : MdlO × St := mdlF D st.len m st
def mdl0 : MdlO := ⟨[], [], [], []⟩
def St.mdl (D : Nat) (st : St) : MdlO × St := (st.want wMdp).mdlOn D mdl0

inductive MP where
  | ok (m : MdlO)
  | er (c p : Nat)
def endM : MdlO × St → MP
  | (m, .good _) => .ok m
  | (_, .bad c p) => .er c p
def parseM (D : Nat) (l : List UInt8) : MP :=
  match toks l with
  | .error x => .er x.1 x.2
  | .ok ts => endM (St.mdl D (.good ts))

/-- No longer than it was, and fine if it was. -/
def Le (a b : St) : Prop := a.len ≤ b.len ∧ (b.Fine → a.Fine)
theorem Le.refl (a : St) : Le a a := ⟨Nat.le_refl _, id⟩
theorem Le.trans {a b c : St} (h : Le a b) (k : Le b c) : Le a c := ⟨Nat.le_trans h.1 k.1, fun h' => h.2 (k.2 h')⟩
theorem hd_bad {st : St} (h : st.hd.kind ≠ 0) : ∃ us, st = .good us ∧ us ≠ [] := by
  cases st with
  | bad c p => exact absurd rfl h
  | good us => exact ⟨us, rfl, by rintro rfl; exact h rfl⟩
theorem tl_le {st : St} (h : st.hd.kind ≠ 0) : Le st.tl st ∧ st.tl.len < st.len := by
  obtain ⟨us, rfl, hu⟩ := hd_bad h
  have hp : 0 < us.length := List.length_pos_iff.2 hu
  refine ⟨⟨by simp [St.tl, St.len], fun hf => (Go.Proofs.YtmgjpjjglghbaaaGreatDoor.Fine.more hf h).1⟩, by simp [St.tl, St.len]; omega⟩
theorem fail_le {c : Nat} (st : St) : Le (st.fail c) st := by
  cases st with
  | bad c p => exact Le.refl _
  | good us => exact ⟨Nat.zero_le _, fun _ => trivial⟩
theorem want_le (x : List UInt8) (st : St) : Le (st.want x) st := by
  unfold St.want
  split
  · next h => exact (tl_le (isT_kind h)).1
  · exact fail_le st
theorem nm_kind {t : Tok} (h : isNm t = true) : t.kind = 1 ∧ isWd t.text = false := by
  simpa [isNm] using h
theorem name_le (st : St) : Le st.name.2 st := by
  unfold St.name
  split
  · next h => exact (tl_le (by rw [(nm_kind h).1]; decide)).1
  · exact fail_le st
theorem name_lt {st : St} (h : isNm st.hd = true) : st.name.2.len < st.len := by
  unfold St.name
  rw [if_pos h]
  exact (tl_le (by rw [(nm_kind h).1]; decide)).2
theorem text_le (st : St) : Le st.text.2 st := by
  unfold St.text
  split
  · next h => exact (tl_le (by rw [h]; decide)).1
  · exact fail_le st
theorem expr_le (D : Nat) (st : St) : Le (st.expr D).2 st := by
  cases st with
  | bad c p => exact Le.refl _
  | good us =>
    have e : (St.good us).expr D = exprP ((dp D).c us) := rfl
    rw [e]
    cases h : (dp D).c us with
    | er c p => exact ⟨Nat.zero_le _, fun _ => trivial⟩
    | ok e r =>
      have := (shr_dp D).c us e r h
      exact ⟨this.1, this.2⟩
theorem mean_le (D : Nat) (st : St) : Le (st.mean D).2 st := (want_le _ _).trans ((expr_le D _).trans (want_le _ _))
theorem defn_le (D : Nat) (st : St) : Le (st.defn D).2 st := (mean_le D _).trans (name_le _)
theorem labl_le (D : Nat) (st : St) : Le (st.labl D).2 st := (mean_le D _).trans (text_le _)
theorem bnds_le (D : Nat) (st : St) : Le (st.bnds D).2 st := (want_le _ _).trans ((expr_le D _).trans ((want_le _ _).trans ((expr_le D _).trans (want_le _ _))))
theorem vals_le (D : Nat) (st : St) : Le (st.vals D).2 st := by
  unfold St.vals
  split
  · next h => exact (tl_le (isT_kind h)).1
  · exact bnds_le D st
theorem init_le (D : Nat) (st : St) : Le (st.init D).2 st := by
  unfold St.init
  split
  · next h => exact (expr_le D _).trans (tl_le (isT_kind h)).1
  · exact Le.refl _
theorem vrbl_le' (D : Nat) (st : St) : Le (st.vrbl D).2 st.name.2 := (want_le _ _).trans ((init_le D _).trans ((vals_le D _).trans (want_le _ _)))
theorem vrbl_le (D : Nat) (st : St) : Le (st.vrbl D).2 st := (vrbl_le' D st).trans (name_le _)
theorem vrbl_lt (D : Nat) {st : St} (h : isNm st.hd = true) : (st.vrbl D).2.len < st.len := Nat.lt_of_le_of_lt (vrbl_le' D st).1 (name_lt h)
section
variable {α : Type} {p : Tok → Bool} {rd : St → α × St}
/-- What a list's reader keeps to. -/
def Dec (p : Tok → Bool) (rd : St → α × St) : Prop := ∀ st, p st.hd = true → (rd st).2.len < st.len ∧ (st.Fine → (rd st).2.Fine)
theorem listF_fuel (hd : Dec p rd) : ∀ (f g : Nat) (st : St), st.len ≤ f → st.len ≤ g → listF p rd f st = listF p rd g st
  | 0, 0, st, _, _ => rfl
  | 0, g + 1, st, h, _ => by
    simp only [listF]
    split
    · next hp => have := (hd st hp).1; omega
    · rfl
  | f + 1, 0, st, _, h => by
    simp only [listF]
    split
    · next hp => have := (hd st hp).1; omega
    · rfl
  | f + 1, g + 1, st, h1, h2 => by
    simp only [listF]
    split
    · next hp =>
      have := (hd st hp).1
      rw [listF_fuel hd f g _ (by omega) (by omega)]
    · rfl
theorem list_go (hd : Dec p rd) {st : St} (h : p st.hd = true) : st.list p rd = ((rd st).1 :: ((rd st).2.list p rd).1, ((rd st).2.list p rd).2) := by
  have hl := (hd st h).1
  unfold St.list
  cases hn : st.len with
  | zero => omega
  | succ n =>
    rw [show listF p rd (n + 1) st = ((rd st).1 :: (listF p rd n (rd st).2).1, (listF p rd n (rd st).2).2) by simp only [listF, h, if_true]]
    rw [listF_fuel hd n (rd st).2.len _ (by omega) (Nat.le_refl _)]
theorem list_end {st : St} (h : p st.hd = false) : st.list p rd = ([], st) := by
  unfold St.list
  cases st.len with
  | zero => rfl
  | succ n => simp [listF, h]
theorem listF_le (hd : Dec p rd) : ∀ (f : Nat) (st : St), Le (listF p rd f st).2 st
  | 0, st => Le.refl _
  | f + 1, st => by
    simp only [listF]
    split
    · next hp =>
      have := hd st hp
      exact (listF_le hd f _).trans ⟨by omega, this.2⟩
    · exact Le.refl _
theorem list_le (hd : Dec p rd) (st : St) : Le (st.list p rd).2 st := listF_le hd _ st
end
theorem dec_tl {α : Type} {x : List UInt8} {rd : St → α × St} (h : ∀ st, Le (rd st).2 st) : Dec (fun t => isT t x) (fun s => rd s.tl) := by
  intro st hp
  have := tl_le (isT_kind hp)
  exact ⟨Nat.lt_of_le_of_lt (h _).1 this.2, fun hf => (h _).2 (this.1.2 hf)⟩
theorem sett_le (D : Nat) (st : St) : Le (st.sett D).2 st := (want_le _ _).trans ((expr_le D _).trans ((want_le _ _).trans ((want_le _ _).trans ((name_le _).trans (want_le _ _)))))
theorem dec_sett (D : Nat) : Dec (fun t => isT t [38]) (fun s => s.tl.sett D) := dec_tl (sett_le D)
theorem wght_le (st : St) : Le st.wght.2 st := by
  unfold St.wght
  split
  · next h =>
    dsimp only
    split
    · exact ⟨Nat.zero_le _, fun _ => trivial⟩
    · exact (want_le _ _).trans (tl_le (by rw [h]; decide)).1
  · exact Le.refl _
theorem sets_le (D : Nat) (st : St) : Le (st.sets D).2 st := by
  unfold St.sets
  split
  · next h => exact (tl_le (isT_kind h)).1
  · exact (list_le (dec_sett D) _).trans (sett_le D st)
theorem brch_le (D : Nat) (st : St) : Le (st.brch D).2 st := (sets_le D _).trans (wght_le _)
theorem dec_brch (D : Nat) : Dec (fun t => isT t [43]) (fun s => s.tl.brch D) := dec_tl (brch_le D)
theorem actn_le (st : St) : Le st.actn.2 st := by
  unfold St.actn
  split
  · exact Le.refl _
  · exact name_le _
theorem brchs_le (D : Nat) (st : St) : Le (st.brchs D).2 st := (list_le (dec_brch D) _).trans (brch_le D st)
theorem cmnd_le' (D : Nat) (st : St) : Le (st.cmnd D).2 (st.want [91]) := (want_le _ _).trans ((brchs_le D _).trans ((want_le _ _).trans ((expr_le D _).trans ((want_le _ _).trans (actn_le _)))))
theorem cmnd_le (D : Nat) (st : St) : Le (st.cmnd D).2 st := (cmnd_le' D st).trans (want_le _ _)
theorem want_lt {x : List UInt8} {st : St} (h : isT st.hd x = true) : (st.want x).len < st.len := by
  unfold St.want
  rw [if_pos h]
  exact (tl_le (isT_kind h)).2
theorem dec_vrbl (D : Nat) : Dec isNm (St.vrbl D) := fun _ h => ⟨vrbl_lt D h, (vrbl_le D _).2⟩
theorem dec_cmnd (D : Nat) : Dec (fun t => isT t [91]) (St.cmnd D) := fun st h => ⟨Nat.lt_of_le_of_lt (cmnd_le' D st).1 (want_lt h), (cmnd_le D _).2⟩
theorem vrbls_le (D : Nat) (st : St) : Le (st.vrbls D).2 st := (list_le (dec_vrbl D) _).trans (name_le _)
theorem cmnds_le (D : Nat) (st : St) : Le (st.cmnds D).2 st := (list_le (dec_cmnd D) _).trans (vrbls_le D st)
theorem modl_le (D : Nat) (st : St) : Le (st.modl D).2 st := (want_le _ _).trans (cmnds_le D st)
theorem dec_defn (D : Nat) (x : List UInt8) : Dec (fun t => isT t x) (fun s => s.tl.defn D) := dec_tl (defn_le D)
theorem dec_labl (D : Nat) (x : List UInt8) : Dec (fun t => isT t x) (fun s => s.tl.labl D) := dec_tl (labl_le D)
theorem dec_modl (D : Nat) (x : List UInt8) : Dec (fun t => isT t x) (fun s => s.tl.modl D) := dec_tl (modl_le D)
theorem list_lt {α : Type} {p : Tok → Bool} {rd : St → α × St} (hd : Dec p rd) {st : St} (h : p st.hd = true) : (st.list p rd).2.len < st.len := by
  rw [list_go hd h]
  exact Nat.lt_of_le_of_lt (list_le hd _).1 (hd st h).1
theorem items_le (D : Nat) (m : MdlO) {st : St} (h0 : st.hd.kind ≠ 0) : Le (st.items D m).2 st ∧ (st.items D m).2.len < st.len := by
  unfold St.items
  split
  · next h => exact ⟨list_le (dec_defn D _) st, list_lt (dec_defn D _) h⟩
  · split
    · next h => exact ⟨list_le (dec_defn D _) st, list_lt (dec_defn D _) h⟩
    · split
      · next h => exact ⟨list_le (dec_labl D _) st, list_lt (dec_labl D _) h⟩
      · split
        · next h => exact ⟨list_le (dec_modl D _) st, list_lt (dec_modl D _) h⟩
        · obtain ⟨us, rfl, hu⟩ := hd_bad h0
          exact ⟨fail_le (c := 20) (St.good us), show 0 < us.length from List.length_pos_iff.2 hu⟩
theorem mdlF_fuel (D : Nat) : ∀ (f g : Nat) (m : MdlO) (st : St), st.len ≤ f → st.len ≤ g → mdlF D f m st = mdlF D g m st
  | 0, 0, m, st, _, _ => rfl
  | 0, g + 1, m, st, h, _ => by
    simp only [mdlF]
    split
    · rfl
    · next h0 => have := (items_le D m h0).2; omega
  | f + 1, 0, m, st, _, h => by
    simp only [mdlF]
    split
    · rfl
    · next h0 => have := (items_le D m h0).2; omega
  | f + 1, g + 1, m, st, h1, h2 => by
    simp only [mdlF]
    split
    · rfl
    · next h0 =>
      have := (items_le D m h0).2
      exact mdlF_fuel D f g _ _ (by omega) (by omega)
theorem mdl_go (D : Nat) {m : MdlO} {st : St} (h0 : st.hd.kind ≠ 0) : st.mdlOn D m = (st.items D m).2.mdlOn D (st.items D m).1 := by
  have hl := (items_le D m h0).2
  unfold St.mdlOn
  cases hn : st.len with
  | zero => omega
  | succ n =>
    rw [show mdlF D (n + 1) m st = mdlF D n (st.items D m).1 (st.items D m).2 by simp only [mdlF, h0, if_false]]
    exact mdlF_fuel D _ _ _ _ (by omega) (Nat.le_refl _)
theorem mdl_end (D : Nat) {m : MdlO} {st : St} (h0 : st.hd.kind = 0) : st.mdlOn D m = (m, st) := by
  unfold St.mdlOn
  cases st.len with
  | zero => rfl
  | succ n => simp [mdlF, h0]
end Go.Proofs.YtmgjpjjglghbaaaGreatDoor
