/-
  Formulas, as the document says them: a reader of tokens that keeps the first error, part by part; how a formula is told. Plain lists, nothing of the program. What a reader of formulas keeps to: no more is left than there was, an error stays, the fuel of chains plays no part; what is read of tokens is read of others with the same kinds and texts, whatever stands behind, and with more levels. What is read is well made; the labels of a formula, one behind the other.
-/
import Derived.Test.YtmgjpjjglghbaaaGreatDoorG1
namespace Go.Proofs.YtmgjpjjglghbaaaGreatDoor
section
/-- A formula that was read. -/
inductive Fo where
  | leaf (op nm : List UInt8) (p : Nat)
  | un (op : List UInt8) (a : Fo) (p : Nat)
  | bin (op : List UInt8) (a b : Fo) (p : Nat)
  deriving DecidableEq
def Fo.op : Fo → List UInt8
  | .leaf op _ _ => op
  | .un op _ _ => op
  | .bin op _ _ _ => op
def Fo.nm : Fo → List UInt8
  | .leaf _ nm _ => nm
  | _ => []
def Fo.pos : Fo → Nat
  | .leaf _ _ p => p
  | .un _ _ p => p
  | .bin _ _ _ p => p
def Fo.kids : Fo → List Fo
  | .leaf _ _ _ => []
  | .un _ a _ => [a]
  | .bin _ a b _ => [a, b]
def Fo.move (q : Nat) : Fo → Fo
  | .leaf op nm _ => .leaf op nm q
  | .un op a _ => .un op a q
  | .bin op a b _ => .bin op a b q
/-- But for places. -/
def Fo.bare : Fo → Fo
  | .leaf op nm _ => .leaf op nm 0
  | .un op a _ => .un op a.bare 0
  | .bin op a b _ => .bin op a.bare b.bare 0
def Fo.size : Fo → Nat
  | .leaf _ _ _ => 1
  | .un _ a _ => a.size + 1
  | .bin _ a b _ => a.size + b.size + 1
def opLab : List UInt8 := [108, 97, 98, 101, 108]
/-- The rank of a formula with that Op. -/
def pk (x : List UInt8) : Nat :=
  if x = [61, 62] then 0 else if x = [124] then 1 else if x = [38] then 2 else if x = [85] ∨ x = [87] ∨ x = [82] then 3
  else if x = [33] ∨ x = [88] ∨ x = [70] ∨ x = [71] then 4 else 5
def sp (k : Nat) (t : Tok) : Bool := (t.kind == 1 || t.kind == 4) && pk t.text == k
abbrev RF := Option Fo × St
def mvO (p : Nat) : Option Fo → Option Fo
  | some f => some (f.move p)
  | none => none
def unO (op : List UInt8) (p : Nat) : Option Fo → Option Fo
  | some f => some (.un op f p)
  | none => none
def binO (op : List UInt8) : Option Fo → Option Fo → Option Fo
  | some a, some b => some (.bin op a b a.pos)
  | _, _ => none
/-- What stands a level deeper: a formula, an until, one with a prefix. -/
structure Dq where
  f : St → RF
  u : St → RF
  x : St → RF
def enclS (d : Dq) (p : Nat) (st : St) : RF := (mvO p (d.f st).1, (d.f st).2.want [41])
def atomS (d : Dq) (st : St) : RF :=
  if st.hd.kind = 3 then (some (.leaf opLab st.hd.text st.hd.pos), st.tl)
  else if isT st.hd opTrue then (some (.leaf opTrue [] st.hd.pos), st.tl)
  else if isT st.hd opFalse then (some (.leaf opFalse [] st.hd.pos), st.tl)
  else if isT st.hd [40] then enclS d st.hd.pos st.tl
  else (none, st.fail 20)
def prefS (d : Dq) (st : St) : RF := if sp 4 st.hd then (unO st.hd.text st.hd.pos (d.x st.tl).1, (d.x st.tl).2) else atomS d st
def rightS (k : Nat) (rd bh : St → RF) (st : St) : RF :=
  if sp k (rd st).2.hd then (binO (rd st).2.hd.text (rd st).1 (bh (rd st).2.tl).1, (bh (rd st).2.tl).2) else rd st
def leftF (k : Nat) (rd : St → RF) : Nat → RF → RF
  | 0, r => r
  | n + 1, r => if sp k r.2.hd then leftF k rd n (binO r.2.hd.text r.1 (rd r.2.tl).1, (rd r.2.tl).2) else r
def leftS (k : Nat) (rd : St → RF) (st : St) : RF := leftF k rd (rd st).2.len (rd st)
def untlS (d : Dq) : St → RF := rightS 3 (prefS d) d.u
def conjS (d : Dq) : St → RF := leftS 2 (untlS d)
def disjS (d : Dq) : St → RF := leftS 1 (conjS d)
def formS (d : Dq) : St → RF := rightS 0 (disjS d) d.f
def deepS (st : St) : RF := (none, st.fail 21)
def dq : Nat → Dq
  | 0 => ⟨deepS, deepS, deepS⟩
  | l + 1 => ⟨formS (dq l), untlS (dq l), prefS (dq l)⟩
inductive FP where
  | ok (f : Fo)
  | er (c p : Nat)
  deriving DecidableEq
def endF : RF → FP
  | (_, .bad c p) => .er c p
  | (o, .good us) => if (hd us).kind = 0 then (match o with | some f => .ok f | none => .er 20 0) else .er 20 (hd us).pos
def parseF (D : Nat) (l : List UInt8) : FP :=
  match toks l with
  | .error x => .er x.1 x.2
  | .ok ts => endF ((dq D).f (.good ts))
def loP (k place : Nat) : Nat := if k = 4 then 4 else if k = 0 ∨ k = 3 then k + 1 - min place 1 else k + place
/-- How a formula is told. -/
def tlF : Fo → List UInt8
  | .leaf op nm _ => if op = opLab then 34 :: (nm ++ [34]) else op
  | .un op a _ => op ++ ((if op = [33] then [] else [32]) ++ parX (decide (pk a.op < pk op)) (tlF a))
  | .bin op a b _ => parX (decide (pk a.op < loP (pk op) 0)) (tlF a) ++ (32 :: op ++ 32 :: parX (decide (pk b.op < loP (pk op) 1)) (tlF b))
end
section
theorem sp_kind {t : Tok} {k : Nat} (h : sp k t = true) : t.kind ≠ 0 ∧ pk t.text = k := by
  simp only [sp, Bool.and_eq_true, Bool.or_eq_true, beq_iff_eq] at h
  exact ⟨by omega, h.2⟩
theorem sp_same {t t' : Tok} (hk : t.kind = t'.kind) (ht : t.text = t'.text) (k : Nat) : sp k t = sp k t' := by unfold sp; rw [hk, ht]
theorem sp_end {t : Tok} (h : t.kind = 0) (k : Nat) : sp k t = false := by simp [sp, h]
theorem tl_sp {st : St} {k : Nat} (h : sp k st.hd = true) : Le st.tl st ∧ st.tl.len < st.len := tl_le (sp_kind h).1
/-- What each reader keeps to. -/
structure Rok (F : St → RF) : Prop where
  le : ∀ st, Le (F st).2 st
  bad : ∀ c p, F (.bad c p) = (none, .bad c p)
  some_ : ∀ st r, (F st).2 = .good r → ∃ e, (F st).1 = some e
  nz : ∀ us r, (F (.good us)).2 = .good r → (hd us).kind ≠ 0
theorem hd_gd {st : St} (h : st.hd.kind ≠ 0) : ∃ us, st = .good us := by
  obtain ⟨us, h, _⟩ := hd_bad h; exact ⟨us, h⟩
theorem want_go {x : List UInt8} {us : List Tok} (h : isT (hd us) x = true) : (St.good us).want x = .good us.tail := by
  unfold St.want
  rw [if_pos (show isT (St.good us).hd x = true from h)]
  rfl
theorem bad_hd (c p k : Nat) : sp k (St.bad c p).hd = false := sp_end rfl k
theorem fail_bad {c : Nat} {st : St} {r : List Tok} (h : st.fail c = .good r) : False := by cases st <;> cases h
theorem want_bad' (x : List UInt8) (c p : Nat) : (St.bad c p).want x = .bad c p := rfl
theorem rok_good {F : St → RF} (hF : Rok F) {st : St} {r : List Tok} (h : (F st).2 = .good r) : ∃ us, st = .good us := by
  cases st with
  | good us => exact ⟨us, rfl⟩
  | bad c p => rw [hF.bad] at h; cases h
theorem want_good' {x : List UInt8} {st : St} {r : List Tok} (h : st.want x = .good r) : ∃ us, st = .good us ∧ isT (hd us) x = true ∧ r = us.tail := by
  cases st with
  | bad c p => cases h
  | good us =>
    unfold St.want at h
    split at h
    · next hi => injection h with h; exact ⟨us, rfl, hi, h.symm⟩
    · cases h
theorem rok_encl {d : Dq} (hf : Rok d.f) (p : Nat) : (∀ st, Le (enclS d p st).2 st) ∧ (∀ c q, enclS d p (.bad c q) = (none, .bad c q)) ∧ ∀ st r, (enclS d p st).2 = .good r → ∃ e, (enclS d p st).1 = some e := by
  refine ⟨fun st => (want_le _ _).trans (hf.le _), fun c q => by unfold enclS; rw [hf.bad]; rfl, fun st r h => ?_⟩
  obtain ⟨us, h1, _⟩ := want_good' (st := (d.f st).2) h
  obtain ⟨e, he⟩ := hf.some_ st us h1
  exact ⟨e.move p, by unfold enclS; rw [he]; rfl⟩
theorem rok_atom {d : Dq} (hf : Rok d.f) : Rok (atomS d) := by
  refine ⟨fun st => ?_, fun c p => ?_, fun st r h => ?_, fun us r h => ?_⟩
  · unfold atomS
    split
    · next h => exact (tl_le (by omega)).1
    · split
      · next h => exact (tl_le (isT_kind h)).1
      · split
        · next h => exact (tl_le (isT_kind h)).1
        · split
          · next h => exact ((rok_encl hf _).1 _).trans (tl_le (isT_kind h)).1
          · exact fail_le st
  · simp [atomS, St.hd, isT, St.fail]
  · unfold atomS at h ⊢
    split at h
    · next g => rw [if_pos g]; exact ⟨_, rfl⟩
    · next g =>
      rw [if_neg g]
      split at h
      · next g => rw [if_pos g]; exact ⟨_, rfl⟩
      · next g =>
        rw [if_neg g]
        split at h
        · next g => rw [if_pos g]; exact ⟨_, rfl⟩
        · next g =>
          rw [if_neg g]
          split at h
          · next g => rw [if_pos g]; exact (rok_encl hf _).2.2 _ _ h
          · exact (fail_bad (c := 20) (st := st) h).elim
  · unfold atomS at h
    split at h
    · next g => intro e; rw [show (St.good us).hd.kind = (hd us).kind from rfl] at g; omega
    · split at h
      · next g => exact isT_kind g
      · split at h
        · next g => exact isT_kind g
        · split at h
          · next g => exact isT_kind g
          · exact (fail_bad (c := 20) (st := .good us) h).elim
theorem rok_pref {d : Dq} (hf : Rok d.f) (hx : Rok d.x) : Rok (prefS d) := by
  have ha := rok_atom hf
  refine ⟨fun st => ?_, fun c p => ?_, fun st r h => ?_, fun us r h => ?_⟩
  · unfold prefS
    split
    · next h => exact (hx.le _).trans (tl_sp h).1
    · exact ha.le st
  · unfold prefS; rw [if_neg (by rw [bad_hd]; simp)]; exact ha.bad c p
  · unfold prefS at h ⊢
    split at h
    · next g => rw [if_pos g]; obtain ⟨e, he⟩ := hx.some_ _ _ h; exact ⟨.un st.hd.text e st.hd.pos, by show unO _ _ _ = _; rw [he]; rfl⟩
    · next g => rw [if_neg g]; exact ha.some_ st r h
  · unfold prefS at h
    split at h
    · next g => exact (sp_kind g).1
    · exact ha.nz us r h
theorem rok_right {k : Nat} {rd bh : St → RF} (hr : Rok rd) (hb : Rok bh) : Rok (rightS k rd bh) := by
  refine ⟨fun st => ?_, fun c p => ?_, fun st r h => ?_, fun us r h => ?_⟩
  · unfold rightS
    split
    · next h => exact (hb.le _).trans ((tl_sp h).1.trans (hr.le st))
    · exact hr.le st
  · unfold rightS; rw [hr.bad]; dsimp only; rw [if_neg (by rw [bad_hd]; simp)]
  · unfold rightS at h ⊢
    split at h
    · next g =>
      rw [if_pos g]
      obtain ⟨us, hu⟩ := hd_gd (sp_kind g).1
      obtain ⟨e, he⟩ := hr.some_ _ _ hu
      obtain ⟨b, hb'⟩ := hb.some_ _ _ h
      exact ⟨_, by show binO _ _ _ = _; rw [he, hb']; rfl⟩
    · next g => rw [if_neg g]; exact hr.some_ st r h
  · unfold rightS at h
    split at h
    · next g =>
      obtain ⟨us', hu⟩ := hd_gd (sp_kind g).1
      exact hr.nz us us' hu
    · exact hr.nz us r h
theorem leftF_le {k : Nat} {rd : St → RF} (hr : Rok rd) : ∀ (n : Nat) (r : RF), Le (leftF k rd n r).2 r.2
  | 0, r => Le.refl _
  | n + 1, r => by
    unfold leftF
    split
    · next h => exact (leftF_le hr n _).trans ((hr.le _).trans (tl_sp h).1)
    · exact Le.refl _
theorem leftF_fuel {k : Nat} {rd : St → RF} (hr : Rok rd) : ∀ (n m : Nat) (r : RF), r.2.len ≤ n → r.2.len ≤ m → leftF k rd n r = leftF k rd m r
  | 0, 0, r, _, _ => rfl
  | 0, m + 1, r, h, _ => by
    unfold leftF
    split
    · next g => have := (tl_sp g).2; omega
    · rfl
  | n + 1, 0, r, _, h => by
    unfold leftF
    split
    · next g => have := (tl_sp g).2; omega
    · rfl
  | n + 1, m + 1, r, h1, h2 => by
    unfold leftF
    split
    · next g =>
      have := (tl_sp g).2
      have h3 := (hr.le r.2.tl).1
      exact leftF_fuel hr n m _ (by show (rd r.2.tl).2.len ≤ _; omega) (by show (rd r.2.tl).2.len ≤ _; omega)
    · rfl
theorem left_go {k : Nat} {rd : St → RF} (hr : Rok rd) {r : RF} (h : sp k r.2.hd = true) : leftF k rd r.2.len r = leftF k rd (rd r.2.tl).2.len (binO r.2.hd.text r.1 (rd r.2.tl).1, (rd r.2.tl).2) ∧ (rd r.2.tl).2.len < r.2.len := by
  have h1 := (tl_sp h).2
  have h2 := (hr.le r.2.tl).1
  refine ⟨?_, by omega⟩
  cases hn : r.2.len with
  | zero => omega
  | succ n =>
    rw [show leftF k rd (n + 1) r = leftF k rd n (binO r.2.hd.text r.1 (rd r.2.tl).1, (rd r.2.tl).2) by rw [leftF, if_pos h]]
    exact leftF_fuel hr _ _ _ (by show (rd r.2.tl).2.len ≤ _; omega) (Nat.le_refl _)
theorem left_stop {k : Nat} {rd : St → RF} {n : Nat} {r : RF} (h : sp k r.2.hd = false) : leftF k rd n r = r := by
  cases n with
  | zero => rfl
  | succ n => rw [leftF, if_neg (by rw [h]; simp)]
theorem leftF_some {k : Nat} {rd : St → RF} (hr : Rok rd) : ∀ (n : Nat) (r : RF) (us : List Tok), (∀ us', r.2 = .good us' → ∃ e, r.1 = some e) → (leftF k rd n r).2 = .good us → ∃ e, (leftF k rd n r).1 = some e
  | 0, r, us, h0, h => h0 us h
  | n + 1, r, us, h0, h => by
    unfold leftF at h ⊢
    split at h
    · next g =>
      rw [if_pos g]
      refine leftF_some hr n _ us (fun us' hu => ?_) h
      obtain ⟨us0, hu0⟩ := hd_gd (sp_kind g).1
      obtain ⟨e, he⟩ := h0 us0 hu0
      obtain ⟨b, hb⟩ := hr.some_ _ _ hu
      exact ⟨_, by show binO _ _ _ = _; rw [he, hb]; rfl⟩
    · next g => rw [if_neg g]; exact h0 us h
theorem rok_left {k : Nat} {rd : St → RF} (hr : Rok rd) : Rok (leftS k rd) := by
  refine ⟨fun st => (leftF_le hr _ _).trans (hr.le st), fun c p => ?_, fun st r h => leftF_some hr _ _ r (fun us' hu => hr.some_ st us' hu) h, fun us r h => ?_⟩
  · unfold leftS; rw [hr.bad]; exact left_stop (bad_hd c p k)
  · cases hs : (rd (.good us)).2 with
    | good us' => exact hr.nz us us' hs
    | bad c p =>
      unfold leftS at h
      rw [left_stop (by rw [hs]; exact bad_hd c p k), hs] at h
      cases h
theorem rok_deep : Rok deepS := ⟨fun st => fail_le st, fun _ _ => rfl, fun st _ h => (fail_bad (c := 21) (st := st) h).elim, fun us _ h => (fail_bad (c := 21) (st := .good us) h).elim⟩
structure Rok3 (d : Dq) : Prop where
  f : Rok d.f
  u : Rok d.u
  x : Rok d.x
structure RokA (d : Dq) : Prop where
  x : Rok (prefS d)
  u : Rok (untlS d)
  a : Rok (conjS d)
  o : Rok (disjS d)
  f : Rok (formS d)
theorem rok_all {d : Dq} (h : Rok3 d) : RokA d := by
  have x := rok_pref h.f h.x
  have u : Rok (untlS d) := rok_right x h.u
  have a : Rok (conjS d) := rok_left u
  have o : Rok (disjS d) := rok_left a
  exact ⟨x, u, a, o, rok_right o h.f⟩
theorem rok_dq : ∀ l, Rok3 (dq l)
  | 0 => ⟨rok_deep, rok_deep, rok_deep⟩
  | l + 1 => ⟨(rok_all (rok_dq l)).f, (rok_all (rok_dq l)).u, (rok_all (rok_dq l)).x⟩

/-- A token behind which no formula goes on. -/
def StopP (t : Tok) : Prop := ∀ k, k < 4 → sp k t = false
inductive AlP (T : List Tok) : List Tok → List Tok → Prop where
  | stop {E : Tok} (h0 : E.kind = 0) (hs : StopP (hd T)) : AlP T [E] T
  | cons {t t' : Tok} {us us' : List Tok} (hk : t.kind = t'.kind) (ht : t.text = t'.text) (h : AlP T us us') : AlP T (t :: us) (t' :: us')
theorem alp_of {T us us' : List Tok} (hs : StopP (hd T)) (h : Al T us us') : AlP T us us' := by
  induction h with
  | stop h0 _ => exact .stop h0 hs
  | cons h1 h2 _ ih => exact .cons h1 h2 ih
theorem AlP.sp {T us us' : List Tok} (h : AlP T us us') {k : Nat} (hk : k < 4) : sp k (hd us) = sp k (hd us') := by
  cases h with
  | stop h0 hs => exact (sp_end h0 k).trans (hs k hk).symm
  | cons h1 h2 _ => exact sp_same h1 h2 k
theorem AlP.more {T us us' : List Tok} (h : AlP T us us') (h0 : (hd us).kind ≠ 0) : (hd us).kind = (hd us').kind ∧ (hd us).text = (hd us').text ∧ AlP T us.tail us'.tail := by
  cases h with
  | stop h1 _ => exact absurd h1 h0
  | cons h1 h2 h3 => exact ⟨h1, h2, h3⟩
theorem fbare_move (q : Nat) (e : Fo) : (e.move q).bare = e.bare := by cases e <;> rfl
def ExF (F F' : St → RF) : Prop := ∀ T us us', AlP T us us' → ∀ e r, F (.good us) = (some e, .good r) → ∃ e' r', F' (.good us') = (some e', .good r') ∧ e'.bare = e.bare ∧ AlP T r r'
theorem rf_ext {x : RF} {o : Option Fo} {s : St} (h1 : x.1 = o) (h2 : x.2 = s) : x = (o, s) := by cases x; simp_all
theorem exf_encl {d d' : Dq} (hr : Rok d.f) (hF : ExF d.f d'.f) {T us us' : List Tok} (ha : AlP T us us') {p p' : Nat} {e : Fo} {r : List Tok} (h : enclS d p (.good us) = (some e, .good r)) : ∃ e' r', enclS d' p' (.good us') = (some e', .good r') ∧ e'.bare = e.bare ∧ AlP T r r' := by
  unfold enclS at h ⊢
  injection h with h1 h2
  obtain ⟨us1, g1, g2, g3⟩ := want_good' h2
  obtain ⟨e1, he1⟩ := hr.some_ _ _ g1
  obtain ⟨e', r', k1, k2, k3⟩ := hF T us us' ha e1 us1 (rf_ext he1 g1)
  rw [he1] at h1
  injection h1 with h1
  subst h1 g3
  obtain ⟨m1, m2, m3⟩ := k3.more (isT_kind g2)
  refine ⟨e'.move p', r'.tail, ?_, by rw [fbare_move, fbare_move, k2], m3⟩
  rw [k1]
  show (mvO p' (some e'), (St.good r').want [41]) = _
  rw [want_go ((isT_same m1 m2 _).symm.trans g2)]
  rfl
theorem atom_good (d : Dq) (us : List Tok) : atomS d (.good us) = (if (hd us).kind = 3 then (some (.leaf opLab (hd us).text (hd us).pos), .good us.tail) else if isT (hd us) opTrue then (some (.leaf opTrue [] (hd us).pos), .good us.tail)
    else if isT (hd us) opFalse then (some (.leaf opFalse [] (hd us).pos), .good us.tail) else if isT (hd us) [40] then enclS d (hd us).pos (.good us.tail) else (none, .bad 20 (hd us).pos)) := rfl
theorem pref_good (d : Dq) (us : List Tok) : prefS d (.good us) = (if sp 4 (hd us) then (unO (hd us).text (hd us).pos (d.x (.good us.tail)).1, (d.x (.good us.tail)).2) else atomS d (.good us)) := rfl
theorem right_good (k : Nat) (rd bh : St → RF) {us r : List Tok} {o : Option Fo} (h : rd (.good us) = (o, .good r)) : rightS k rd bh (.good us) = (if sp k (hd r) then (binO (hd r).text o (bh (.good r.tail)).1, (bh (.good r.tail)).2) else (o, .good r)) := by
  unfold rightS
  rw [h]
  rfl
theorem exf_atom {d d' : Dq} (hr : Rok d.f) (hF : ExF d.f d'.f) : ExF (atomS d) (atomS d') := by
  intro T us us' ha e r h
  have h0 := (rok_atom hr).nz us r (by rw [h])
  obtain ⟨m1, m2, m3⟩ := ha.more h0
  rw [atom_good] at h ⊢
  rw [← m1]
  simp only [← isT_same m1 m2, ← m2]
  split at h
  · next g =>
    rw [if_pos g]
    injection h with h1 h2
    injection h1 with h1
    injection h2 with h2
    subst h1 h2
    exact ⟨_, _, rfl, rfl, m3⟩
  · next g =>
    rw [if_neg g]
    split at h
    · next g =>
      rw [if_pos g]
      injection h with h1 h2
      injection h1 with h1
      injection h2 with h2
      subst h1 h2
      exact ⟨_, _, rfl, rfl, m3⟩
    · next g =>
      rw [if_neg g]
      split at h
      · next g =>
        rw [if_pos g]
        injection h with h1 h2
        injection h1 with h1
        injection h2 with h2
        subst h1 h2
        exact ⟨_, _, rfl, rfl, m3⟩
      · next g =>
        rw [if_neg g]
        split at h
        · next g => rw [if_pos g]; exact exf_encl hr hF m3 h
        · cases h
theorem exf_pref {d d' : Dq} (hr : Rok3 d) (hF : ExF d.f d'.f) (hX : ExF d.x d'.x) : ExF (prefS d) (prefS d') := by
  intro T us us' ha e r h
  have h0 := (rok_pref hr.f hr.x).nz us r (by rw [h])
  obtain ⟨m1, m2, m3⟩ := ha.more h0
  rw [pref_good] at h ⊢
  rw [← sp_same m1 m2, ← m2]
  split at h
  · next g =>
    rw [if_pos g]
    injection h with h1 h2
    obtain ⟨e1, he1⟩ := hr.x.some_ _ _ h2
    obtain ⟨e', r', k1, k2, k3⟩ := hX T _ _ m3 e1 r (rf_ext he1 h2)
    rw [he1] at h1
    injection h1 with h1
    subst h1
    refine ⟨.un (hd us).text e' (hd us').pos, r', ?_, by simp [Fo.bare, k2], k3⟩
    rw [k1]; rfl
  · next g => rw [if_neg g]; exact exf_atom hr.f hF T us us' ha e r h
theorem exf_right {k : Nat} (hk : k < 4) {rd bh rd' bh' : St → RF} (hr : Rok rd) (hb : Rok bh) (hR : ExF rd rd') (hB : ExF bh bh') : ExF (rightS k rd bh) (rightS k rd' bh') := by
  intro T us us' ha e r h
  cases hq : (rd (.good us)).2 with
  | bad c p =>
    unfold rightS at h
    rw [if_neg (by rw [hq, bad_hd]; simp)] at h
    rw [h] at hq
    cases hq
  | good us1 =>
    obtain ⟨a, ha1⟩ := hr.some_ _ _ hq
    obtain ⟨a', r1', k1, k2, k3⟩ := hR T us us' ha a us1 (rf_ext ha1 hq)
    rw [right_good k rd bh (rf_ext ha1 hq)] at h
    rw [right_good k rd' bh' k1, ← k3.sp hk]
    split at h
    · next g =>
      rw [if_pos g]
      injection h with h1 h2
      obtain ⟨b, hb1⟩ := hb.some_ _ _ h2
      obtain ⟨m1, m2, m3⟩ := k3.more (sp_kind g).1
      obtain ⟨b', r2', q1, q2, q3⟩ := hB T _ _ m3 b r (rf_ext hb1 h2)
      rw [hb1] at h1
      injection h1 with h1
      subst h1
      refine ⟨.bin (hd us1).text a' b' a'.pos, r2', ?_, by simp [Fo.bare, k2, q2], q3⟩
      rw [q1, ← m2]
      rfl
    · next g =>
      rw [if_neg g]
      injection h with h1 h2
      injection h1 with h1
      injection h2 with h2
      subst h1 h2
      exact ⟨a', r1', rfl, k2, k3⟩
theorem exf_leftF {k : Nat} (hk : k < 4) {rd rd' : St → RF} (hr : Rok rd) (hr' : Rok rd') (hR : ExF rd rd') : ∀ (n : Nat) (T us us' : List Tok) (a a' e : Fo) (r : List Tok), us.length ≤ n → AlP T us us' → a'.bare = a.bare → leftF k rd us.length (some a, .good us) = (some e, .good r) →
    ∃ e' r', leftF k rd' us'.length (some a', .good us') = (some e', .good r') ∧ e'.bare = e.bare ∧ AlP T r r' := by
  intro n
  induction n with
  | zero =>
    intro T us us' a a' e r hn ha hb h
    have : us = [] := List.length_eq_zero_iff.1 (by omega)
    subst this
    cases ha
  | succ n ih =>
    intro T us us' a a' e r hn ha hb h
    by_cases hs : sp k (hd us) = true
    · have hs' : sp k (hd us') = true := by rw [← ha.sp hk]; exact hs
      obtain ⟨hk2, ht2, htl⟩ := ha.more (sp_kind hs).1
      obtain ⟨g1, g2⟩ := left_go (r := (some a, .good us)) hr hs
      rw [show (St.good us).len = us.length from rfl] at g1 g2
      rw [g1] at h
      cases hq : (rd (St.good us).tl).2 with
      | bad c p =>
        have h' : leftF k rd (rd (St.good us).tl).2.len (binO (St.good us).hd.text (some a) (rd (St.good us).tl).1, (rd (St.good us).tl).2) = (some e, .good r) := h
        rw [left_stop (by show sp k (rd (St.good us).tl).2.hd = false; rw [hq]; exact bad_hd c p k)] at h'
        injection h' with _ h2
        rw [hq] at h2
        cases h2
      | good r1 =>
        obtain ⟨b, hb1⟩ := hr.some_ _ _ hq
        obtain ⟨b', r1', q1, q2, q3⟩ := hR T us.tail us'.tail htl b r1 (rf_ext hb1 hq)
        obtain ⟨g3, _⟩ := left_go (r := (some a', .good us')) hr' hs'
        have h' : leftF k rd (rd (St.good us).tl).2.len (binO (St.good us).hd.text (some a) (rd (St.good us).tl).1, (rd (St.good us).tl).2) = (some e, .good r) := h
        rw [hq, hb1] at h'
        rw [hq] at g2
        rw [show leftF k rd' us'.length (some a', .good us') = leftF k rd' (rd' (St.good us').tl).2.len (binO (St.good us').hd.text (some a') (rd' (St.good us').tl).1, (rd' (St.good us').tl).2) from g3]
        rw [show rd' (St.good us').tl = (some b', .good r1') from q1]
        exact ih T r1 r1' _ _ e r (by have : r1.length < us.length := g2; omega) q3 (by simp [Fo.bare, hb, q2, ht2, St.hd]) h'
    · have hs1 : sp k (hd us) = false := by simpa using hs
      have hs' : sp k (hd us') = false := by rw [← ha.sp hk]; exact hs1
      rw [left_stop hs1] at h
      injection h with h1 h2
      injection h1 with h1
      injection h2 with h2
      subst h1 h2
      exact ⟨a', us', left_stop hs', hb, ha⟩
theorem exf_left {k : Nat} (hk : k < 4) {rd rd' : St → RF} (hr : Rok rd) (hr' : Rok rd') (hR : ExF rd rd') : ExF (leftS k rd) (leftS k rd') := by
  intro T us us' ha e r h
  unfold leftS at h ⊢
  cases hq : (rd (.good us)).2 with
  | bad c p =>
    rw [left_stop (by rw [hq]; exact bad_hd c p k)] at h
    rw [h] at hq
    cases hq
  | good r1 =>
    obtain ⟨a, ha1⟩ := hr.some_ _ _ hq
    obtain ⟨a', r1', q1, q2, q3⟩ := hR T us us' ha a r1 (rf_ext ha1 hq)
    rw [rf_ext ha1 hq] at h
    rw [q1]
    exact exf_leftF hk hr hr' hR r1.length T r1 r1' a a' e r (Nat.le_refl _) q3 q2 h
structure ExF3 (d d' : Dq) : Prop where
  f : ExF d.f d'.f
  u : ExF d.u d'.u
  x : ExF d.x d'.x
theorem exf_dq : ∀ l l', l ≤ l' → ExF3 (dq l) (dq l')
  | 0, _, _ => by
    have : ∀ F, ExF deepS F := fun F T us us' _ e r h => by cases h
    exact ⟨this _, this _, this _⟩
  | l + 1, 0, h => by omega
  | l + 1, l' + 1, h => by
    have ih := exf_dq l l' (by omega)
    have r := rok_dq l
    have r' := rok_dq l'
    have a := rok_all r
    have a' := rok_all r'
    have x := exf_pref r ih.f ih.x
    have u : ExF (untlS (dq l)) (untlS (dq l')) := exf_right (by decide) a.x r.u x ih.u
    have c : ExF (conjS (dq l)) (conjS (dq l')) := exf_left (by decide) a.u a'.u u
    have o : ExF (disjS (dq l)) (disjS (dq l')) := exf_left (by decide) a.a a'.a c
    exact ⟨exf_right (by decide) a.o r.f o ih.f, u, x⟩
end
section
/-- Well made. -/
def OkF : Fo → Prop
  | .leaf op nm _ => (op = opLab ∧ nm.length ≤ 65536) ∨ ((op = opTrue ∨ op = opFalse) ∧ nm = [])
  | .un op a _ => pk op = 4 ∧ OkF a
  | .bin op a b _ => pk op < 4 ∧ OkF a ∧ OkF b
theorem okf_move (q : Nat) : ∀ {e : Fo}, OkF e → OkF (e.move q)
  | .leaf _ _ _, h => h
  | .un _ _ _, h => h
  | .bin _ _ _ _, h => h
def Rdf (F : St → RF) : Prop := ∀ st, st.Fine → ∀ e, (F st).1 = some e → OkF e
theorem st_len {st : St} (h : st.Fine) : st.hd.text.length ≤ 65536 := by
  cases st with
  | bad c p => simp [St.hd]
  | good us => exact Go.Proofs.YtmgjpjjglghbaaaGreatDoor.Fine.len (us := us) h
theorem st_tl {st : St} (h : st.Fine) (h0 : st.hd.kind ≠ 0) : st.tl.Fine := (tl_le h0).1.2 h
theorem rdf_encl {d : Dq} (hf : Rdf d.f) (p : Nat) : Rdf (enclS d p) := by
  intro st hs e h
  unfold enclS at h
  cases ho : (d.f st).1 with
  | none => rw [ho] at h; cases h
  | some a =>
    rw [ho] at h
    injection h with h
    subst h
    exact okf_move p (hf st hs a ho)
theorem rdf_atom {d : Dq} (hf : Rdf d.f) : Rdf (atomS d) := by
  intro st hs e h
  unfold atomS at h
  split at h
  · injection h with h; subst h; exact .inl ⟨rfl, st_len hs⟩
  · split at h
    · injection h with h; subst h; exact .inr ⟨.inl rfl, rfl⟩
    · split at h
      · injection h with h; subst h; exact .inr ⟨.inr rfl, rfl⟩
      · split at h
        · next g => exact rdf_encl hf _ _ (st_tl hs (isT_kind g)) e h
        · cases h
theorem rdf_pref {d : Dq} (hf : Rdf d.f) (hx : Rdf d.x) : Rdf (prefS d) := by
  intro st hs e h
  unfold prefS at h
  split at h
  · next g =>
    cases ho : (d.x st.tl).1 with
    | none => rw [ho] at h; cases h
    | some a =>
      rw [ho] at h
      injection h with h
      subst h
      exact ⟨(sp_kind g).2, hx _ (st_tl hs (sp_kind g).1) a ho⟩
  · exact rdf_atom hf st hs e h
theorem bin_some {op : List UInt8} {a b : Option Fo} {e : Fo} (h : binO op a b = some e) : ∃ x y, a = some x ∧ b = some y ∧ e = .bin op x y x.pos := by
  cases a with
  | none => cases b <;> cases h
  | some x => cases b with
    | none => cases h
    | some y => injection h with h; exact ⟨x, y, rfl, rfl, h.symm⟩
theorem rdf_right {k : Nat} (hk : k < 4) {rd bh : St → RF} (hr : Rok rd) (h1 : Rdf rd) (h2 : Rdf bh) : Rdf (rightS k rd bh) := by
  intro st hs e h
  unfold rightS at h
  split at h
  · next g =>
    obtain ⟨x, y, hx, hy, rfl⟩ := bin_some h
    have hs2 := (hr.le st).2 hs
    exact ⟨by rw [(sp_kind g).2]; exact hk, h1 st hs x hx, h2 _ (st_tl hs2 (sp_kind g).1) y hy⟩
  · exact h1 st hs e h
theorem rdf_leftF {k : Nat} (hk : k < 4) {rd : St → RF} (hr : Rok rd) (h1 : Rdf rd) : ∀ (n : Nat) (r : RF), r.2.Fine → (∀ e, r.1 = some e → OkF e) → ∀ e, (leftF k rd n r).1 = some e → OkF e
  | 0, r, _, h0, e, h => h0 e h
  | n + 1, r, hs, h0, e, h => by
    unfold leftF at h
    split at h
    · next g =>
      have ht := st_tl hs (sp_kind g).1
      refine rdf_leftF hk hr h1 n (binO r.2.hd.text r.1 (rd r.2.tl).1, (rd r.2.tl).2) ((hr.le _).2 ht) (fun e' h' => ?_) e h
      obtain ⟨x, y, hx, hy, rfl⟩ := bin_some h'
      exact ⟨by rw [(sp_kind g).2]; exact hk, h0 x hx, h1 _ ht y hy⟩
    · exact h0 e h
theorem rdf_left {k : Nat} (hk : k < 4) {rd : St → RF} (hr : Rok rd) (h1 : Rdf rd) : Rdf (leftS k rd) := fun st hs e h => rdf_leftF hk hr h1 _ _ ((hr.le st).2 hs) (fun e' h' => h1 st hs e' h') e h
structure Rdf3 (d : Dq) : Prop where
  f : Rdf d.f
  u : Rdf d.u
  x : Rdf d.x
theorem rdf_dq : ∀ l, Rdf3 (dq l)
  | 0 => by
    have : Rdf deepS := fun st _ e h => by cases h
    exact ⟨this, this, this⟩
  | l + 1 => by
    have ih := rdf_dq l
    have r := rok_dq l
    have a := rok_all r
    have x := rdf_pref ih.f ih.x
    have u : Rdf (untlS (dq l)) := rdf_right (by decide) a.x x ih.u
    have c : Rdf (conjS (dq l)) := rdf_left (by decide) a.u u
    have o : Rdf (disjS (dq l)) := rdf_left (by decide) a.a c
    exact ⟨rdf_right (by decide) a.o o ih.f, u, x⟩
/-- No more formulas than tokens. -/
def Szf (F : St → RF) : Prop := ∀ st e, (F st).1 = some e → e.size + (F st).2.len ≤ st.len
theorem fsize_move (q : Nat) (e : Fo) : (e.move q).size = e.size := by cases e <;> rfl
theorem szf_atom {d : Dq} (hf : Szf d.f) : Szf (atomS d) := by
  intro st e h
  unfold atomS at h ⊢
  split at h
  · next g => rw [if_pos g]; injection h with h; subst h; have := (tl_le (st := st) (by omega)).2; simp only [Fo.size]; omega
  · next g =>
    rw [if_neg g]
    split at h
    · next g => rw [if_pos g]; injection h with h; subst h; have := (tl_le (isT_kind g)).2; simp only [Fo.size]; omega
    · next g =>
      rw [if_neg g]
      split at h
      · next g => rw [if_pos g]; injection h with h; subst h; have := (tl_le (isT_kind g)).2; simp only [Fo.size]; omega
      · next g =>
        rw [if_neg g]
        split at h
        · next g =>
          rw [if_pos g]
          unfold enclS at h ⊢
          cases ho : (d.f st.tl).1 with
          | none => rw [ho] at h; cases h
          | some a =>
            rw [ho] at h
            injection h with h
            subst h
            have h1 := hf st.tl a ho
            have h2 := (tl_le (isT_kind g)).2
            have h3 := (want_le [41] (d.f st.tl).2).1
            rw [fsize_move]
            show a.size + ((d.f st.tl).2.want [41]).len ≤ st.len
            omega
        · cases h
theorem szf_pref {d : Dq} (hf : Szf d.f) (hx : Szf d.x) : Szf (prefS d) := by
  intro st e h
  unfold prefS at h ⊢
  split at h
  · next g =>
    rw [if_pos g]
    cases ho : (d.x st.tl).1 with
    | none => rw [ho] at h; cases h
    | some a =>
      rw [ho] at h
      injection h with h
      subst h
      have h1 := hx st.tl a ho
      have h2 := (tl_sp g).2
      show a.size + 1 + (d.x st.tl).2.len ≤ st.len
      omega
  · next g => rw [if_neg g]; exact szf_atom hf st e h
theorem szf_right {k : Nat} {rd bh : St → RF} (h1 : Szf rd) (h2 : Szf bh) : Szf (rightS k rd bh) := by
  intro st e h
  unfold rightS at h ⊢
  split at h
  · next g =>
    rw [if_pos g]
    obtain ⟨x, y, hx, hy, rfl⟩ := bin_some h
    have a1 := h1 st x hx
    have a2 := h2 _ y hy
    have a3 := (tl_sp g).2
    show x.size + y.size + 1 + (bh (rd st).2.tl).2.len ≤ st.len
    omega
  · next g => rw [if_neg g]; exact h1 st e h
theorem szf_leftF {k : Nat} {rd : St → RF} (h1 : Szf rd) (L : Nat) : ∀ (n : Nat) (r : RF), (∀ e, r.1 = some e → e.size + r.2.len ≤ L) → ∀ e, (leftF k rd n r).1 = some e → e.size + (leftF k rd n r).2.len ≤ L
  | 0, r, h0, e, h => h0 e h
  | n + 1, r, h0, e, h => by
    unfold leftF at h ⊢
    split at h
    · next g =>
      rw [if_pos g]
      refine szf_leftF h1 L n (binO r.2.hd.text r.1 (rd r.2.tl).1, (rd r.2.tl).2) (fun e' h' => ?_) e h
      obtain ⟨x, y, hx, hy, rfl⟩ := bin_some h'
      have a1 := h0 x hx
      have a2 := h1 _ y hy
      have a3 := (tl_sp g).2
      show x.size + y.size + 1 + (rd r.2.tl).2.len ≤ L
      omega
    · next g => rw [if_neg g]; exact h0 e h
theorem szf_left {k : Nat} {rd : St → RF} (h1 : Szf rd) : Szf (leftS k rd) := fun st e h => szf_leftF h1 st.len _ _ (fun e' h' => h1 st e' h') e h
structure Szf3 (d : Dq) : Prop where
  f : Szf d.f
  u : Szf d.u
  x : Szf d.x
theorem szf_dq : ∀ l, Szf3 (dq l)
  | 0 => by
    have : Szf deepS := fun st e h => by cases h
    exact ⟨this, this, this⟩
  | l + 1 => by
    have ih := szf_dq l
    have x := szf_pref ih.f ih.x
    have u : Szf (untlS (dq l)) := szf_right x ih.u
    have c : Szf (conjS (dq l)) := szf_left u
    have o : Szf (disjS (dq l)) := szf_left c
    exact ⟨szf_right o ih.f, u, x⟩
theorem good_lenF (l : List UInt8) : ∀ (ts : List Tok) (i : Nat), Good l i ts → ts.length + i ≤ l.length + 1
  | [], _, h => h.elim
  | [t], i, h => by
    obtain ⟨_, _, h1, h2⟩ := h
    simp only [List.length_cons, List.length_nil]
    omega
  | t :: u :: us, i, h => by
    obtain ⟨h1, h2, ⟨n, hm, _, hg⟩, _⟩ := h
    have h3 := good_lenF l (u :: us) _ hg
    have h4 := (meas_kinds (by intro h0; have := congrArg List.length h0; simp at this; omega) hm).2.1
    simp only [List.length_cons] at h3 ⊢
    omega
theorem parse_okf {D : Nat} {l : List UInt8} {f : Fo} (hl : l.length ≤ 65536) (h : parseF D l = .ok f) : OkF f ∧ f.size ≤ l.length + 1 := by
  unfold parseF at h
  cases ht : toks l with
  | error x => rw [ht] at h; cases h
  | ok ts =>
    rw [ht] at h
    simp only at h
    have hf : (St.good ts).Fine := fine_toks hl ht
    cases hr : (dq D).f (.good ts) with
    | mk o st =>
      rw [hr] at h
      cases st with
      | bad c p => cases h
      | good r =>
        simp only [endF] at h
        split at h
        · cases o with
          | none => cases h
          | some g =>
            injection h with h
            subst h
            have h5 := (szf_dq D).f (.good ts) g (by rw [hr])
            have h6 := good_lenF l _ 0 (good_toks ht)
            exact ⟨(rdf_dq D).f _ hf g (by rw [hr]), by have h7 : (St.good ts).len = ts.length := rfl; omega⟩
        · cases h
/-- The labels, one behind the other, as often as they stand there. -/
def lbs : Fo → List (List UInt8)
  | .leaf op nm _ => if op = opLab then [nm] else []
  | .un _ a _ => lbs a
  | .bin _ a b _ => lbs a ++ lbs b
theorem lbs_bare : ∀ e : Fo, lbs e.bare = lbs e
  | .leaf _ _ _ => rfl
  | .un _ a _ => lbs_bare a
  | .bin _ a b _ => by simp only [Fo.bare, lbs, lbs_bare a, lbs_bare b]
theorem lbs_same {a b : Fo} (h : a.bare = b.bare) : lbs a = lbs b := by rw [← lbs_bare a, h, lbs_bare]
theorem fsize_bare : ∀ e : Fo, e.bare.size = e.size
  | .leaf _ _ _ => rfl
  | .un _ a _ => by simp only [Fo.bare, Fo.size, fsize_bare a]
  | .bin _ a b _ => by simp only [Fo.bare, Fo.size, fsize_bare a, fsize_bare b]
theorem fsize_same {a b : Fo} (h : a.bare = b.bare) : a.size = b.size := by rw [← fsize_bare a, h, fsize_bare]
theorem lbs_len : ∀ e : Fo, (lbs e).length ≤ e.size
  | .leaf _ _ _ => by unfold lbs; split <;> simp [Fo.size]
  | .un _ a _ => by have := lbs_len a; simp only [lbs, Fo.size]; omega
  | .bin _ a b _ => by have := lbs_len a; have := lbs_len b; simp only [lbs, Fo.size, List.length_append]; omega
theorem okf_lbs : ∀ {e : Fo}, OkF e → ∀ x ∈ lbs e, x.length ≤ 65536
  | .leaf op nm _, h, x, hx => by
    unfold lbs at hx
    split at hx
    · next g =>
      rcases h with ⟨_, h⟩ | ⟨h, _⟩
      · rw [List.mem_singleton] at hx; subst hx; exact h
      · rw [g] at h; rcases h with h | h <;> exact absurd h (by decide)
    · cases hx
  | .un _ a _, h, x, hx => okf_lbs h.2 x hx
  | .bin _ a b _, h, x, hx => (List.mem_append.1 hx).elim (okf_lbs h.2.1 x) (okf_lbs h.2.2 x)
end
end Go.Proofs.YtmgjpjjglghbaaaGreatDoor
