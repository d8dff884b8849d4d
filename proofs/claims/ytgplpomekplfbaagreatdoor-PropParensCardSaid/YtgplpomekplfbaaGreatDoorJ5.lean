/-
  Formulas in parentheses; two with & between, and with U.
-/
import Derived.Test.YtgplpomekplfbaaGreatDoorJ4
import Derived.Test.YtgplpomekplfbaaGreatDoorQR
import Derived.Test.YtgplpomekplfbaaGreatDoorQU
namespace Go.Proofs.YtgplpomekplfbaaGreatDoor

theorem endF_ok {x : RF} {f : Fo} (h : endF x = .ok f) : ∃ r, x = (some f, .good r) ∧ (hd r).kind = 0 := by
  obtain ⟨o, st⟩ := x
  cases st with
  | bad c p => cases h
  | good r =>
    simp only [endF] at h
    split at h
    · next h0 =>
      cases o with
      | none => cases h
      | some g => injection h with h; subst h; exact ⟨r, rfl, h0⟩
    · cases h
theorem parseF_toks {D : Nat} {l : List UInt8} {ts : List Tok} (h : toks l = .ok ts) : parseF D l = endF ((dq D).f (.good ts)) := by rw [parseF, h]
theorem alp_end {T r r' : List Tok} (h : AlP T r r') (h0 : (hd r).kind = 0) (hf : Fine r) : r' = T := by
  cases h with
  | stop _ _ => rfl
  | cons h1 h2 h3 =>
    exfalso
    rename_i t t' us us'
    cases us with
    | nil => cases h3
    | cons u us => exact hf.1 h0
theorem sp_rp (q : Nat) : StopP ⟨4, [41], q⟩ := fun k hk => by
  have : pk [41] = 5 := by decide
  simp [sp, this]; omega
theorem dq_s (l : Nat) : dq (l + 1) = ⟨formS (dq l), untlS (dq l), prefS (dq l)⟩ := by rw [dq]
theorem dq_f (l : Nat) : (dq (l + 1)).f = formS (dq l) := by rw [dq_s]
theorem dq_u (l : Nat) : (dq (l + 1)).u = untlS (dq l) := by rw [dq_s]
/-- One in parentheses, read as an atom. -/
theorem pref_paren {D l' : Nat} (hD : D ≤ l') {s : List UInt8} {f : Fo} (hs : s.length ≤ 65536) (hp : parseF D s = .ok f) {ini : List Tok} (ht : Tks s ini) (p q : Nat) (T : List Tok) :
    ∃ f', prefS (dq l') (.good ([⟨4, [40], p⟩] ++ ini ++ [⟨4, [41], q⟩] ++ T)) = (some f', .good T) ∧ f'.bare = f.bare := by
  obtain ⟨ts, E, h1, h0, _, hal⟩ := ht
  have hf := fine_toks hs h1
  rw [parseF_toks h1] at hp
  obtain ⟨r, hr, hk⟩ := endF_ok hp
  obtain ⟨f', r', k1, k2, k3⟩ := (exf_dq D l' hD).f _ _ _ (alp_of (show StopP (hd (⟨4, [41], q⟩ :: T)) from sp_rp q) (hal (⟨4, [41], q⟩ :: T) (stop_rp q))) _ _ hr
  have hfr : Fine r := by
    have := ((rok_dq D).f.le (.good (ts ++ [E]))).2 hf
    rw [hr] at this
    exact this
  have hr' := alp_end k3 hk hfr
  subst hr'
  refine ⟨f'.move p, ?_, by rw [fbare_move, k2]⟩
  have e2 : [⟨4, [40], p⟩] ++ ini ++ [⟨4, [41], q⟩] ++ T = ⟨4, [40], p⟩ :: (ini ++ ⟨4, [41], q⟩ :: T) := by simp
  rw [e2]
  unfold prefS
  rw [if_neg (by simp [St.hd, hd, sp]; decide)]
  unfold atomS
  rw [if_neg (by simp [St.hd, hd]), if_neg (by simp [St.hd, hd, isT, opTrue]), if_neg (by simp [St.hd, hd, isT, opFalse]), if_pos (by simp [St.hd, hd, isT])]
  simp only [St.hd, hd, List.headD_cons, St.tl, List.tail_cons, enclS]
  rw [k1]
  show (some _, (St.good (⟨4, [41], q⟩ :: T)).want [41]) = _
  rw [want_go (by simp [isT, hd])]
  rfl
theorem pref_true {d : Dq} (q : Nat) (T : List Tok) : prefS d (.good (⟨1, opTrue, q⟩ :: T)) = (some (.leaf opTrue [] q), .good T) := by
  have : pk opTrue = 5 := by decide
  unfold prefS
  rw [if_neg (by simp [St.hd, hd, sp, this])]
  unfold atomS
  rw [if_neg (by simp [St.hd, hd]), if_pos (by simp [St.hd, hd, isT])]
  rfl
theorem right_once {k : Nat} {rd bh : St → RF} {us T : List Tok} {e : Fo} (h : rd (.good us) = (some e, .good T)) (hs : sp k (hd T) = false) : rightS k rd bh (.good us) = (some e, .good T) := by
  rw [right_good k rd bh h, if_neg (by rw [hs]; simp)]
theorem left_once {k : Nat} {rd : St → RF} {us T : List Tok} {e : Fo} (h : rd (.good us) = (some e, .good T)) (hs : sp k (hd T) = false) : leftS k rd (.good us) = (some e, .good T) := by
  unfold leftS
  rw [h]
  exact left_stop hs
theorem form_up {d : Dq} {us T : List Tok} {e : Fo} (h : conjS d (.good us) = (some e, .good T)) (hs : sp 0 (hd T) = false ∧ sp 1 (hd T) = false) : formS d (.good us) = (some e, .good T) :=
  right_once (left_once h hs.2) hs.1
theorem form_of {d : Dq} {us T : List Tok} {e : Fo} (h : prefS d (.good us) = (some e, .good T)) (hs : (hd T).kind = 0) : formS d (.good us) = (some e, .good T) :=
  form_up (left_once (right_once h (sp_end hs 3)) (sp_end hs 2)) ⟨sp_end hs 0, sp_end hs 1⟩
theorem scan_end (p : Nat) : scanR [] p = .ok [⟨0, [], p⟩] := by rw [scanR_step]; simp [blanks]
/-- In parentheses: the same, one level deeper. -/
theorem paren_sameF {D : Nat} {s : List UInt8} {f : Fo} (hs : s.length ≤ 60000) (hcm : cmt s = false) (hp : parseF D s = .ok f) : ∃ f', parseF (D + 1) (40 :: (s ++ [41])) = .ok f' ∧ f'.bare = f.bare := by
  cases htk : toks s with
  | error x => rw [parseF, htk] at hp; cases hp
  | ok ts =>
    obtain ⟨ini, h1, h2⟩ := scan_paren hcm htk 0 []
    rw [scan_end] at h2
    obtain ⟨f', h3, h4⟩ := pref_paren (Nat.le_refl D) (by omega) hp h1 0 (0 + 1 + s.length) [⟨0, [], 0 + s.length + 2⟩]
    refine ⟨f', ?_, h4⟩
    rw [parseF_toks (ts := [⟨4, [40], 0⟩] ++ ini ++ [⟨4, [41], 0 + 1 + s.length⟩] ++ [⟨0, [], 0 + s.length + 2⟩]) (by rw [toks_R, h2]; rfl)]
    rw [dq_f, form_of h3 rfl]
    rfl
theorem solo_and : soloB 38 := by unfold soloB; decide
theorem scan_word {l : List UInt8} (h : nameL l) {t : List UInt8} (ht : Beh t) (p : Nat) : ∃ q, scanR (l ++ t) p = onto [⟨1, l, q⟩] (scanR t (p + l.length)) := by
  obtain ⟨ini, h1, h2⟩ := sc_name h t p ht
  match ini, h1 with
  | [⟨k, x, q⟩], h1 =>
    simp only [List.map_cons, List.map_nil, key, List.cons.injEq, Prod.mk.injEq, and_true] at h1
    obtain ⟨rfl, rfl⟩ := h1
    exact ⟨q, h2⟩
theorem beh_blank (t : List UInt8) : Beh (32 :: t) := .inr ⟨32, t, rfl, .inl rfl⟩
theorem name_true : nameL opTrue := ⟨⟨116, [114, 117, 101], rfl, by decide⟩, by decide⟩
theorem name_U : nameL [85] := ⟨⟨85, [], rfl, by decide⟩, by decide⟩
theorem name_and {q : Nat} : sp 3 ⟨4, [38], q⟩ = false := by simp [sp]; decide
/-- (s) & (t) & true. -/
theorem paren_and {D : Nat} {s t : List UInt8} {f y : Fo} (hs : s.length + t.length ≤ 60000) (hc1 : cmt s = false) (hc2 : cmt t = false) (hp : parseF D s = .ok f) (hq : parseF D t = .ok y) :
    ∃ a b n, parseF (D + 1) (40 :: (s ++ 41 :: 32 :: 38 :: 32 :: 40 :: (t ++ 41 :: 32 :: 38 :: 32 :: opTrue))) = .ok (.bin [38] (.bin [38] a b a.pos) (.leaf opTrue [] n) a.pos) ∧ a.bare = f.bare ∧ b.bare = y.bare := by
  cases ht1 : toks s with
  | error x => rw [parseF, ht1] at hp; cases hp
  | ok ts1 =>
    cases ht2 : toks t with
    | error x => rw [parseF, ht2] at hq; cases hq
    | ok ts2 =>
      obtain ⟨i1, k1, k2⟩ := scan_paren hc1 ht1 0 (32 :: 38 :: 32 :: 40 :: (t ++ 41 :: 32 :: 38 :: 32 :: opTrue))
      rw [scan_blank, scan_solo solo_and, scan_blank] at k2
      obtain ⟨i2, k3, k4⟩ := scan_paren hc2 ht2 (0 + s.length + 2 + 1 + 1 + 1) (32 :: 38 :: 32 :: opTrue)
      rw [scan_blank, scan_solo solo_and, scan_blank] at k4
      generalize 0 + s.length + 2 + 1 = q1 at *
      obtain ⟨qt, k5⟩ := scan_word name_true (t := []) (.inl rfl) (q1 + 1 + 1 + t.length + 2 + 1 + 1 + 1)
      rw [List.append_nil, scan_end] at k5
      rw [k5] at k4
      rw [k4] at k2
      generalize q1 + 1 + 1 + t.length + 2 + 1 + 1 + 1 + opTrue.length = qe at *
      generalize q1 + 1 + 1 + t.length + 2 + 1 = q2 at *
      generalize q1 + 1 + 1 + 1 + t.length = q3 at *
      have e0 : toks (40 :: (s ++ 41 :: 32 :: 38 :: 32 :: 40 :: (t ++ 41 :: 32 :: 38 :: 32 :: opTrue))) = .ok ([⟨4, [40], 0⟩] ++ i1 ++ [⟨4, [41], 0 + 1 + s.length⟩] ++ (⟨4, [38], q1⟩ :: ([⟨4, [40], q1 + 1 + 1⟩] ++ i2 ++ [⟨4, [41], q3⟩] ++ (⟨4, [38], q2⟩ :: [⟨1, opTrue, qt⟩, ⟨0, [], qe⟩])))) := by
        rw [toks_R, k2]
        simp [onto]
      rw [parseF_toks e0]
      obtain ⟨a, a1, a2⟩ := pref_paren (Nat.le_refl D) (by omega) hp k1 0 (0 + 1 + s.length) (⟨4, [38], q1⟩ :: ([⟨4, [40], q1 + 1 + 1⟩] ++ i2 ++ [⟨4, [41], q3⟩] ++ (⟨4, [38], q2⟩ :: [⟨1, opTrue, qt⟩, ⟨0, [], qe⟩])))
      obtain ⟨b, b1, b2⟩ := pref_paren (Nat.le_refl D) (by omega) hq k3 (q1 + 1 + 1) q3 (⟨4, [38], q2⟩ :: [⟨1, opTrue, qt⟩, ⟨0, [], qe⟩])
      have c1 := pref_true (d := dq D) qt [⟨0, [], qe⟩]
      have u1 : untlS (dq D) _ = _ := right_once (bh := (dq D).u) a1 name_and
      have u2 : untlS (dq D) _ = _ := right_once (bh := (dq D).u) b1 name_and
      have u3 : untlS (dq D) _ = _ := right_once (bh := (dq D).u) c1 (sp_end rfl 3)
      have hU := (rok_all (rok_dq D)).u
      have pk38 : pk [38] = 2 := by decide
      have cj : conjS (dq D) (.good ([⟨4, [40], 0⟩] ++ i1 ++ [⟨4, [41], 0 + 1 + s.length⟩] ++ (⟨4, [38], q1⟩ :: ([⟨4, [40], q1 + 1 + 1⟩] ++ i2 ++ [⟨4, [41], q3⟩] ++ (⟨4, [38], q2⟩ :: [⟨1, opTrue, qt⟩, ⟨0, [], qe⟩]))))) = (some (.bin [38] (.bin [38] a b a.pos) (.leaf opTrue [] qt) a.pos), .good [⟨0, [], qe⟩]) := by
        unfold conjS leftS
        rw [u1]
        rw [(left_go (k := 2) hU (r := (some a, .good (⟨4, [38], q1⟩ :: _))) (by simp [St.hd, hd, sp, pk38])).1]
        simp only [St.tl, List.tail_cons, St.hd, hd, List.headD_cons]
        rw [u2]
        rw [(left_go (k := 2) hU (r := (binO [38] (some a) (some b), .good (⟨4, [38], q2⟩ :: _))) (by simp [St.hd, hd, sp, pk38])).1]
        simp only [St.tl, List.tail_cons, St.hd, hd, List.headD_cons]
        rw [u3]
        rw [left_stop (by simp [St.hd, hd, sp])]
        rfl
      refine ⟨a, b, qt, ?_, a2, b2⟩
      rw [dq_f, form_up cj ⟨sp_end rfl 0, sp_end rfl 1⟩]
      rfl
theorem right_go {k : Nat} {rd bh : St → RF} {us T : List Tok} {t : Tok} {e b : Fo} {r : List Tok} (h : rd (.good us) = (some e, .good (t :: T))) (hs : sp k t = true) (hb : bh (.good T) = (some b, .good r)) : rightS k rd bh (.good us) = (some (.bin t.text e b e.pos), .good r) := by
  rw [right_good k rd bh h, if_pos (show sp k (hd (t :: T)) = true from hs), show (t :: T).tail = T from rfl, hb]
  rfl
/-- (s) U (t) U true. -/
theorem paren_until {D : Nat} {s t : List UInt8} {f y : Fo} (hs : s.length + t.length ≤ 60000) (hc1 : cmt s = false) (hc2 : cmt t = false) (hp : parseF D s = .ok f) (hq : parseF D t = .ok y) :
    ∃ a b n, parseF (D + 3) (40 :: (s ++ 41 :: 32 :: 85 :: 32 :: 40 :: (t ++ 41 :: 32 :: 85 :: 32 :: opTrue))) = .ok (.bin [85] a (.bin [85] b (.leaf opTrue [] n) b.pos) a.pos) ∧ a.bare = f.bare ∧ b.bare = y.bare := by
  cases ht1 : toks s with
  | error x => rw [parseF, ht1] at hp; cases hp
  | ok ts1 =>
    cases ht2 : toks t with
    | error x => rw [parseF, ht2] at hq; cases hq
    | ok ts2 =>
      obtain ⟨i1, k1, k2⟩ := scan_paren hc1 ht1 0 (32 :: 85 :: 32 :: 40 :: (t ++ 41 :: 32 :: 85 :: 32 :: opTrue))
      obtain ⟨qu, w1⟩ := scan_word name_U (beh_blank (40 :: (t ++ 41 :: 32 :: 85 :: 32 :: opTrue))) (0 + s.length + 2 + 1)
      rw [show ([85] : List UInt8) ++ 32 :: 40 :: (t ++ 41 :: 32 :: 85 :: 32 :: opTrue) = 85 :: 32 :: 40 :: (t ++ 41 :: 32 :: 85 :: 32 :: opTrue) from rfl, scan_blank] at w1
      rw [scan_blank, w1] at k2
      obtain ⟨i2, k3, k4⟩ := scan_paren hc2 ht2 (0 + s.length + 2 + 1 + [(85 : UInt8)].length + 1) (32 :: 85 :: 32 :: opTrue)
      obtain ⟨qv, w2⟩ := scan_word name_U (beh_blank opTrue) (0 + s.length + 2 + 1 + [(85 : UInt8)].length + 1 + t.length + 2 + 1)
      rw [show ([85] : List UInt8) ++ 32 :: opTrue = 85 :: 32 :: opTrue from rfl, scan_blank] at w2
      rw [scan_blank, w2] at k4
      generalize 0 + s.length + 2 + 1 + [(85 : UInt8)].length + 1 = q1 at *
      obtain ⟨qt, k5⟩ := scan_word name_true (t := []) (.inl rfl) (q1 + t.length + 2 + 1 + [(85 : UInt8)].length + 1)
      rw [List.append_nil, scan_end] at k5
      rw [k5] at k4
      rw [k4] at k2
      generalize q1 + t.length + 2 + 1 + [(85 : UInt8)].length + 1 + opTrue.length = qe at *
      generalize q1 + 1 + t.length = q3 at *
      have e0 : toks (40 :: (s ++ 41 :: 32 :: 85 :: 32 :: 40 :: (t ++ 41 :: 32 :: 85 :: 32 :: opTrue))) = .ok ([⟨4, [40], 0⟩] ++ i1 ++ [⟨4, [41], 0 + 1 + s.length⟩] ++ (⟨1, [85], qu⟩ :: ([⟨4, [40], q1⟩] ++ i2 ++ [⟨4, [41], q3⟩] ++ (⟨1, [85], qv⟩ :: [⟨1, opTrue, qt⟩, ⟨0, [], qe⟩])))) := by
        rw [toks_R, k2]
        simp [onto]
      rw [parseF_toks e0]
      obtain ⟨a, a1, a2⟩ := pref_paren (show D ≤ D + 2 by omega) (by omega) hp k1 0 (0 + 1 + s.length) (⟨1, [85], qu⟩ :: ([⟨4, [40], q1⟩] ++ i2 ++ [⟨4, [41], q3⟩] ++ (⟨1, [85], qv⟩ :: [⟨1, opTrue, qt⟩, ⟨0, [], qe⟩])))
      obtain ⟨b, b1, b2⟩ := pref_paren (show D ≤ D + 1 by omega) (by omega) hq k3 q1 q3 (⟨1, [85], qv⟩ :: [⟨1, opTrue, qt⟩, ⟨0, [], qe⟩])
      have c1 := pref_true (d := dq D) qt [⟨0, [], qe⟩]
      have pk85 : pk [85] = 3 := by decide
      have u3 : (dq (D + 1)).u (.good [⟨1, opTrue, qt⟩, ⟨0, [], qe⟩]) = (some (.leaf opTrue [] qt), .good [⟨0, [], qe⟩]) := right_once (bh := (dq D).u) c1 (sp_end rfl 3)
      have u2 : (dq (D + 2)).u (.good ([⟨4, [40], q1⟩] ++ i2 ++ [⟨4, [41], q3⟩] ++ (⟨1, [85], qv⟩ :: [⟨1, opTrue, qt⟩, ⟨0, [], qe⟩]))) = (some (.bin [85] b (.leaf opTrue [] qt) b.pos), .good [⟨0, [], qe⟩]) := right_go (t := ⟨1, [85], qv⟩) b1 (by simp [sp, pk85]) u3
      have u1 : untlS (dq (D + 2)) _ = _ := right_go (t := ⟨1, [85], qu⟩) a1 (by simp [sp, pk85]) u2
      refine ⟨a, b, qt, ?_, a2, b2⟩
      rw [show D + 3 = (D + 2) + 1 from rfl, dq_f, form_up (left_once u1 (sp_end rfl 2)) ⟨sp_end rfl 0, sp_end rfl 1⟩]
      rfl
end Go.Proofs.YtgplpomekplfbaaGreatDoor
