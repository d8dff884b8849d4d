/-
  Parentheses around an expression; chains of + and of =>.
-/
import Derived.Test.YtmgjpjjglghbaaaGreatDoorQQ
namespace Go.Proofs.YtmgjpjjglghbaaaGreatDoor
/-- A sign of one byte that begins none of two. -/
def soloB (c : UInt8) : Prop := digitB c = false ∧ letterB c = false ∧ quoteB c = false ∧ blankB c = false ∧ c.toNat ≠ 47 ∧ oneB c = true ∧ c.toNat ≠ 45 ∧ c.toNat ≠ 60 ∧ c.toNat ≠ 62 ∧ c.toNat ≠ 33 ∧ c.toNat ≠ 61 ∧ c.toNat ≠ 46
theorem scan_solo {c : UInt8} (h : soloB c) (l : List UInt8) (p : Nat) : scanR (c :: l) p = onto [⟨4, [c], p⟩] (scanR l (p + 1)) := by
  obtain ⟨h1, h2, h3, h4, h5, h6, h7, h8, h9, h10, h11, h12⟩ := h
  have hb : blanks false (c :: l) = 0 := by
    rw [blanks, if_neg (by simp [h4]), if_neg (by rintro ⟨h, _⟩; exact h5 h)]
  have h2' : twoB (c :: l) = false := by
    cases l with
    | nil => rfl
    | cons b l => simp [twoB, h7, h8, h9, h10, h11, h12]
  have hm : meas (c :: l) = (4, 1, 0) := by
    simp [meas, h1, h2, h3, signN, h2', h6]
  rw [scanR_step, hb]
  simp only [List.drop_zero, Nat.add_zero]
  rw [if_neg (by simp), hm]
  simp [bareL]
theorem scan_blank (l : List UInt8) (p : Nat) : scanR (32 :: l) p = scanR l (p + 1) :=
  scanR_blank (32 :: l) l p 1 (by rw [show blanks false (32 :: l) = blanks false l + 1 by simp [blanks, blankB, Nat.add_comm], List.drop_succ_cons]) (by simp [blanks, blankB]) (by simp [Nat.add_comm])
theorem solo_lp : soloB 40 := by unfold soloB; decide
theorem solo_rp : soloB 41 := by unfold soloB; decide
theorem solo_plus : soloB 43 := by unfold soloB; decide
theorem scan_imp (l : List UInt8) (p : Nat) : scanR (61 :: 62 :: l) p = onto [⟨4, [61, 62], p⟩] (scanR l (p + 2)) := by
  have hb : blanks false (61 :: 62 :: l) = 0 := by simp [blanks, blankB]
  have hm : meas (61 :: 62 :: l) = (4, 2, 0) := by simp [meas, digitB, letterB, quoteB, signN, twoB]
  rw [scanR_step, hb]
  simp only [List.drop_zero, Nat.add_zero]
  rw [if_neg (by simp), hm]
  simp [bareL]
theorem scan_one (p : Nat) : scanR [49] p = .ok [⟨2, [49], p⟩, ⟨0, [], p + 1⟩] := by
  have hb : blanks false [49] = 0 := by simp [blanks, blankB]
  have hm : meas [49] = (2, 1, 0) := by decide
  rw [scanR_step, hb]
  simp only [List.drop_zero, Nat.add_zero]
  rw [if_neg (by simp), hm]
  simp only [List.drop_succ_cons, List.drop_zero, if_true]
  rw [scanR_step]
  simp [blanks, bareL, onto]
/-- The tokens of a text, elsewhere. -/
def Tks (s : List UInt8) (ini : List Tok) : Prop := ∃ ts E, toks s = .ok (ts ++ [E]) ∧ E.kind = 0 ∧ ini.length = ts.length ∧ ∀ T, Stop (hd T) → Al T (ts ++ [E]) (ini ++ T)
theorem al_mv {T : List Tok} {E : Tok} (h0 : E.kind = 0) (hs : Stop (hd T)) (d : Nat) : ∀ ini : List Tok, Al T (ini ++ [E]) (ini.map (mv d) ++ T)
  | [] => .stop h0 hs
  | _ :: ini => .cons rfl rfl (al_mv h0 hs d ini)
/-- A text in parentheses: its tokens, and what stands behind. -/
theorem scan_paren {s : List UInt8} {ts : List Tok} (hcm : cmt s = false) (h : toks s = .ok ts) (p : Nat) (t : List UInt8) : ∃ ini, Tks s ini ∧ scanR (40 :: (s ++ 41 :: t)) p = onto ([⟨4, [40], p⟩] ++ ini ++ [⟨4, [41], p + 1 + s.length⟩]) (scanR t (p + s.length + 2)) := by
  obtain ⟨i0, rfl, _⟩ := scan_appX (x := 41) (.inr rfl) t s.length s 0 (Nat.le_refl _) hcm ts h
  have hmv := scan_mv (p + 1) s.length s 0 (Nat.le_refl _)
  rw [Nat.zero_add, ← toks_R, h] at hmv
  obtain ⟨i1, h1, h2⟩ := scan_appX (x := 41) (.inr rfl) t s.length s (p + 1) (Nat.le_refl _) hcm _ hmv
  have e1 : i1 = i0.map (mv (p + 1)) := by
    have := congrArg List.dropLast h1
    simpa using this.symm
  refine ⟨i0.map (mv (p + 1)), ⟨i0, _, h, rfl, by simp, fun T hT => al_mv rfl hT _ _⟩, ?_⟩
  rw [scan_solo solo_lp, h2, scan_solo solo_rp, onto_onto, onto_onto, e1]
  rw [show p + 1 + s.length + 1 = p + s.length + 2 by omega]
theorem stop_rp (q : Nat) : Stop ⟨4, [41], q⟩ := ⟨fun k hk => by
    have : rk [41] = 9 := by decide
    simp [sg, this]; omega, by simp [isT], by simp [isT]⟩
/-- One in parentheses, read as an atom. -/
theorem atom_paren {D l' : Nat} (hD : D ≤ l') {s : List UInt8} {e : Ex} {r : List Tok} (hs : s.length ≤ 65536) (hp : parseX D s = .ok e r) {ini : List Tok} (ht : Tks s ini) (p q : Nat) (T : List Tok) :
    ∃ e', minusX (dp l') ([⟨4, [40], p⟩] ++ ini ++ [⟨4, [41], q⟩] ++ T) = .ok e' T ∧ e'.bare = e.bare := by
  obtain ⟨ts, E, h1, h0, _, hal⟩ := ht
  have hf := fine_toks hs h1
  rw [parse_ok h1] at hp
  cases hc : (dp D).c (ts ++ [E]) with
  | er c p => rw [hc] at hp; cases hp
  | ok e1 r1 =>
    rw [hc] at hp
    simp only [endX] at hp
    split at hp
    · rename_i hk
      injection hp with g1 g2
      subst g1 g2
      obtain ⟨e', r', k1, k2, k3⟩ := (ext_dp D l' hD).c _ _ _ (hal (⟨4, [41], q⟩ :: T) (stop_rp q)) _ _ hc
      have hr := al_end k3 hk (((shr_dp D).c _ _ _ hc).2 hf)
      subst hr
      refine ⟨e'.move p, ?_, by rw [bare_move, k2]⟩
      have e2 : [⟨4, [40], p⟩] ++ ini ++ [⟨4, [41], q⟩] ++ T = ⟨4, [40], p⟩ :: (ini ++ ⟨4, [41], q⟩ :: T) := by simp
      rw [e2]
      unfold minusX
      rw [if_neg (by simp [hd, isT])]
      unfold atomX
      rw [if_pos (by simp [hd, isT])]
      simp only [hd, List.headD_cons, List.tail_cons]
      rw [k1, enclosedX, if_pos (by simp [hd, isT])]
      rfl
    · cases hp
/-- Nothing of a chain goes on. -/
def Rest (t : Tok) : Prop := ∀ k, k < 8 → sg k t = false
theorem chain_once {k : Nat} {F : List Tok → PR} {us : List Tok} {e : Ex} {T : List Tok} (h : F us = .ok e T) (hs : sg k (hd T) = false) : chainX k F us = .ok e T := by
  unfold chainX; rw [h]; exact chain_stop hs
theorem sum_of {d : Dp} {us T : List Tok} {e : Ex} (h : sumX d us = .ok e T) (hn : isT (hd us) [33] = false) (hs : Rest (hd T)) : disjX d us = .ok e T := by
  have c : compX d us = .ok e T := by unfold compX; rw [h, compG, if_neg (by rw [hs 5 (by decide)]; simp)]
  have n : negX d us = .ok e T := by unfold negX; rw [if_neg (by rw [hn]; simp)]; exact c
  have a : conjX d us = .ok e T := chain_once n (hs 3 (by decide))
  exact chain_once a (hs 2 (by decide))
theorem prod_of {d : Dp} {us T : List Tok} {e : Ex} (h : minusX d us = .ok e T) (hs : sg 7 (hd T) = false) : prodX d us = .ok e T := chain_once h hs
theorem disj_of {d : Dp} {us T : List Tok} {e : Ex} (h : minusX d us = .ok e T) (hn : isT (hd us) [33] = false) (hs : Rest (hd T)) : disjX d us = .ok e T :=
  sum_of (chain_once (prod_of h (hs 7 (by decide))) (hs 6 (by decide))) hn hs
theorem cond_of {d : Dp} {us T : List Tok} {e : Ex} (h : disjX d us = .ok e T) (h1 : isT (hd T) [61, 62] = false) (h2 : isT (hd T) [63] = false) : condX d us = .ok e T := by
  have i : implX d us = .ok e T := by unfold implX; rw [h, implG, if_neg (by rw [h1]; simp)]
  unfold condX; rw [i, condG, if_neg (by rw [h2]; simp)]
theorem rest_end (q : Nat) : Rest ⟨0, [], q⟩ := (stop_end rfl).1
theorem head_lp {p : Nat} {ini us : List Tok} : hd ([⟨4, [40], p⟩] ++ ini ++ us) = ⟨4, [40], p⟩ := by simp [hd]
/-- In parentheses: the same, one level deeper. -/
theorem paren_same {D : Nat} {s : List UInt8} {e : Ex} {r : List Tok} (hs : s.length ≤ 60000) (hcm : cmt s = false) (hp : parseX D s = .ok e r) : ∃ e' r', parseX (D + 1) (40 :: (s ++ [41])) = .ok e' r' ∧ e'.bare = e.bare := by
  cases htk : toks s with
  | error x => rw [parseX, htk] at hp; cases hp
  | ok ts =>
    obtain ⟨ini, h1, h2⟩ := scan_paren hcm htk 0 []
    have hl : scanR [] (0 + s.length + 2) = .ok [⟨0, [], s.length + 2⟩] := by rw [scanR_step]; simp [blanks]
    rw [hl] at h2
    obtain ⟨e', h3, h4⟩ := atom_paren (Nat.le_refl D) (by omega) hp h1 0 (0 + 1 + s.length) [⟨0, [], s.length + 2⟩]
    refine ⟨e', [⟨0, [], s.length + 2⟩], ?_, h4⟩
    rw [parse_ok (ts := [⟨4, [40], 0⟩] ++ ini ++ [⟨4, [41], 0 + 1 + s.length⟩] ++ [⟨0, [], s.length + 2⟩]) (by rw [toks_R, h2]; rfl)]
    have h5 : (dp (D + 1)).c ([⟨4, [40], 0⟩] ++ ini ++ [⟨4, [41], 0 + 1 + s.length⟩] ++ [⟨0, [], s.length + 2⟩]) = .ok e' [⟨0, [], s.length + 2⟩] :=
      cond_of (disj_of h3 (by rw [List.append_assoc, head_lp]; rfl) (rest_end _)) rfl rfl
    rw [h5]
    rfl
theorem dp_c (l : Nat) : (dp (l + 1)).c = condX (dp l) := rfl
theorem dp_i (l : Nat) : (dp (l + 1)).i = implX (dp l) := rfl
theorem chain_sign {k : Nat} {F : List Tok → PR} (hS : Shr F) {t : Tok} (hs : sg k t = true) {us r : List Tok} {e b : Ex} (h : F us = .ok b r) : chainF k F (t :: us).length e (t :: us) = chainF k F r.length (.bin t.text e b e.pos) r := (chain_go (r := t :: us) hS hs h).1
def addE (a b : Ex) (n p q : Nat) : Ex := .bin [43] (.bin [43] a b p) (.leaf opNum [] 1 n) q
/-- (s) + (t) + 1. -/
theorem paren_sum {D : Nat} {s t : List UInt8} {e y : Ex} {r r' : List Tok} (hs : s.length + t.length ≤ 60000) (hc1 : cmt s = false) (hc2 : cmt t = false) (hp : parseX D s = .ok e r) (hq : parseX D t = .ok y r') :
    ∃ a b n r2, parseX (D + 1) (40 :: (s ++ 41 :: 32 :: 43 :: 32 :: 40 :: (t ++ [41, 32, 43, 32, 49]))) = .ok (addE a b n a.pos a.pos) r2 ∧ a.bare = e.bare ∧ b.bare = y.bare := by
  cases ht1 : toks s with
  | error x => rw [parseX, ht1] at hp; cases hp
  | ok ts1 =>
    cases ht2 : toks t with
    | error x => rw [parseX, ht2] at hq; cases hq
    | ok ts2 =>
      obtain ⟨i1, k1, k2⟩ := scan_paren hc1 ht1 0 (32 :: 43 :: 32 :: 40 :: (t ++ [41, 32, 43, 32, 49]))
      rw [scan_blank, scan_solo solo_plus, scan_blank] at k2
      obtain ⟨i2, k3, k4⟩ := scan_paren hc2 ht2 (0 + s.length + 2 + 1 + 1 + 1) [32, 43, 32, 49]
      rw [scan_blank, scan_solo solo_plus, scan_blank, scan_one] at k4
      generalize 0 + s.length + 2 + 1 = q1 at *
      rw [k4] at k2
      generalize q1 + 1 + 1 + t.length + 2 + 1 = q2 at *
      generalize q1 + 1 + 1 + 1 + t.length = q3 at *
      have e0 : toks (40 :: (s ++ 41 :: 32 :: 43 :: 32 :: 40 :: (t ++ [41, 32, 43, 32, 49]))) = .ok ([⟨4, [40], 0⟩] ++ i1 ++ [⟨4, [41], 0 + 1 + s.length⟩] ++ (⟨4, [43], q1⟩ :: ([⟨4, [40], q1 + 1 + 1⟩] ++ i2 ++ [⟨4, [41], q3⟩] ++ (⟨4, [43], q2⟩ :: [⟨2, [49], q2 + 1 + 1⟩, ⟨0, [], q2 + 1 + 1 + 1⟩])))) := by
        rw [toks_R, k2]
        simp [onto]
      rw [parse_ok e0]
      obtain ⟨a, a1, a2⟩ := atom_paren (Nat.le_refl D) (by omega) hp k1 0 (0 + 1 + s.length) (⟨4, [43], q1⟩ :: ([⟨4, [40], q1 + 1 + 1⟩] ++ i2 ++ [⟨4, [41], q3⟩] ++ (⟨4, [43], q2⟩ :: [⟨2, [49], q2 + 1 + 1⟩, ⟨0, [], q2 + 1 + 1 + 1⟩])))
      obtain ⟨b, b1, b2⟩ := atom_paren (Nat.le_refl D) (by omega) hq k3 (q1 + 1 + 1) q3 (⟨4, [43], q2⟩ :: [⟨2, [49], q2 + 1 + 1⟩, ⟨0, [], q2 + 1 + 1 + 1⟩])
      have c1 : minusX (dp D) [⟨2, [49], q2 + 1 + 1⟩, ⟨0, [], q2 + 1 + 1 + 1⟩] = .ok (.leaf opNum [] 1 (q2 + 1 + 1)) [⟨0, [], q2 + 1 + 1 + 1⟩] := by
        unfold minusX atomX
        simp [hd, isT, valOf]
      have rk43 : rk [43] = 6 := by decide
      have p1 := prod_of a1 (by simp [hd, sg, rk43])
      have p2 := prod_of b1 (by simp [hd, sg, rk43])
      have p3 := prod_of c1 (by simp [hd, sg])
      have hS := (shr_lv D).p
      have su : sumX (dp D) ([⟨4, [40], 0⟩] ++ i1 ++ [⟨4, [41], 0 + 1 + s.length⟩] ++ (⟨4, [43], q1⟩ :: ([⟨4, [40], q1 + 1 + 1⟩] ++ i2 ++ [⟨4, [41], q3⟩] ++ (⟨4, [43], q2⟩ :: [⟨2, [49], q2 + 1 + 1⟩, ⟨0, [], q2 + 1 + 1 + 1⟩])))) = .ok (addE a b (q2 + 1 + 1) a.pos a.pos) [⟨0, [], q2 + 1 + 1 + 1⟩] := by
        unfold sumX chainX
        rw [p1, chainG, chain_sign hS (by simp [sg, rk43]) p2, chain_sign hS (by simp [sg, rk43]) p3, chain_stop (by simp [hd, sg])]
        rfl
      have hfin : (dp (D + 1)).c ([⟨4, [40], 0⟩] ++ i1 ++ [⟨4, [41], 0 + 1 + s.length⟩] ++ (⟨4, [43], q1⟩ :: ([⟨4, [40], q1 + 1 + 1⟩] ++ i2 ++ [⟨4, [41], q3⟩] ++ (⟨4, [43], q2⟩ :: [⟨2, [49], q2 + 1 + 1⟩, ⟨0, [], q2 + 1 + 1 + 1⟩])))) = .ok (addE a b (q2 + 1 + 1) a.pos a.pos) [⟨0, [], q2 + 1 + 1 + 1⟩] :=
        cond_of (sum_of su (by rw [List.append_assoc, head_lp]; rfl) (rest_end _)) rfl rfl
      exact ⟨a, b, q2 + 1 + 1, _, by rw [hfin]; rfl, a2, b2⟩
def impE (a b : Ex) (n p q : Nat) : Ex := .bin [61, 62] a (.bin [61, 62] b (.leaf opNum [] 1 n) p) q
theorem imp_on {d : Dp} {us T : List Tok} {a : Ex} {q : Nat} (h : disjX d us = .ok a (⟨4, [61, 62], q⟩ :: T)) {b : Ex} {r : List Tok} (hi : d.i T = .ok b r) : implX d us = .ok (.bin [61, 62] a b a.pos) r := by
  unfold implX
  rw [h, implG, if_pos (by simp [hd, isT])]
  simp only [List.tail_cons]
  rw [hi]
  rfl
theorem rest_impX (q : Nat) : ∀ k, 2 ≤ k → k < 8 → sg k ⟨4, [61, 62], q⟩ = false := by
  intro k h1 h2
  have : rk [61, 62] = 1 := by decide
  simp [sg, this]; omega
theorem disj_imp {d : Dp} {us T : List Tok} {e : Ex} {q : Nat} (h : minusX d us = .ok e (⟨4, [61, 62], q⟩ :: T)) (hn : isT (hd us) [33] = false) : disjX d us = .ok e (⟨4, [61, 62], q⟩ :: T) := by
  have hs : ∀ k, 2 ≤ k → k < 8 → sg k (hd (⟨4, [61, 62], q⟩ :: T)) = false := rest_impX q
  have p : prodX d us = _ := chain_once h (hs 7 (by decide) (by decide))
  have su : sumX d us = _ := chain_once p (hs 6 (by decide) (by decide))
  have c : compX d us = .ok e (⟨4, [61, 62], q⟩ :: T) := by unfold compX; rw [su, compG, if_neg (by rw [hs 5 (by decide) (by decide)]; simp)]
  have n : negX d us = .ok e (⟨4, [61, 62], q⟩ :: T) := by unfold negX; rw [if_neg (by rw [hn]; simp)]; exact c
  have a : conjX d us = _ := chain_once n (hs 3 (by decide) (by decide))
  exact chain_once a (hs 2 (by decide) (by decide))
/-- (s) => (t) => 1. -/
theorem paren_imp {D : Nat} {s t : List UInt8} {e y : Ex} {r r' : List Tok} (hs : s.length + t.length ≤ 60000) (hc1 : cmt s = false) (hc2 : cmt t = false) (hp : parseX D s = .ok e r) (hq : parseX D t = .ok y r') :
    ∃ a b n r2, parseX (D + 3) (40 :: (s ++ 41 :: 32 :: 61 :: 62 :: 32 :: 40 :: (t ++ [41, 32, 61, 62, 32, 49]))) = .ok (impE a b n b.pos a.pos) r2 ∧ a.bare = e.bare ∧ b.bare = y.bare := by
  cases ht1 : toks s with
  | error x => rw [parseX, ht1] at hp; cases hp
  | ok ts1 =>
    cases ht2 : toks t with
    | error x => rw [parseX, ht2] at hq; cases hq
    | ok ts2 =>
      obtain ⟨i1, k1, k2⟩ := scan_paren hc1 ht1 0 (32 :: 61 :: 62 :: 32 :: 40 :: (t ++ [41, 32, 61, 62, 32, 49]))
      rw [scan_blank, scan_imp, scan_blank] at k2
      obtain ⟨i2, k3, k4⟩ := scan_paren hc2 ht2 (0 + s.length + 2 + 1 + 2 + 1) [32, 61, 62, 32, 49]
      rw [scan_blank, scan_imp, scan_blank, scan_one] at k4
      generalize 0 + s.length + 2 + 1 = q1 at *
      rw [k4] at k2
      generalize q1 + 2 + 1 + t.length + 2 + 1 = q2 at *
      generalize q1 + 2 + 1 + 1 + t.length = q3 at *
      have e0 : toks (40 :: (s ++ 41 :: 32 :: 61 :: 62 :: 32 :: 40 :: (t ++ [41, 32, 61, 62, 32, 49]))) = .ok ([⟨4, [40], 0⟩] ++ i1 ++ [⟨4, [41], 0 + 1 + s.length⟩] ++ (⟨4, [61, 62], q1⟩ :: ([⟨4, [40], q1 + 2 + 1⟩] ++ i2 ++ [⟨4, [41], q3⟩] ++ (⟨4, [61, 62], q2⟩ :: [⟨2, [49], q2 + 2 + 1⟩, ⟨0, [], q2 + 2 + 1 + 1⟩])))) := by
        rw [toks_R, k2]
        simp [onto]
      rw [parse_ok e0]
      obtain ⟨a, a1, a2⟩ := atom_paren (show D ≤ D + 2 by omega) (by omega) hp k1 0 (0 + 1 + s.length) (⟨4, [61, 62], q1⟩ :: ([⟨4, [40], q1 + 2 + 1⟩] ++ i2 ++ [⟨4, [41], q3⟩] ++ (⟨4, [61, 62], q2⟩ :: [⟨2, [49], q2 + 2 + 1⟩, ⟨0, [], q2 + 2 + 1 + 1⟩])))
      obtain ⟨b, b1, b2⟩ := atom_paren (show D ≤ D + 1 by omega) (by omega) hq k3 (q1 + 2 + 1) q3 (⟨4, [61, 62], q2⟩ :: [⟨2, [49], q2 + 2 + 1⟩, ⟨0, [], q2 + 2 + 1 + 1⟩])
      have c1 : minusX (dp D) [⟨2, [49], q2 + 2 + 1⟩, ⟨0, [], q2 + 2 + 1 + 1⟩] = .ok (.leaf opNum [] 1 (q2 + 2 + 1)) [⟨0, [], q2 + 2 + 1 + 1⟩] := by
        unfold minusX atomX
        simp [hd, isT, valOf]
      have i3 : (dp (D + 1)).i [⟨2, [49], q2 + 2 + 1⟩, ⟨0, [], q2 + 2 + 1 + 1⟩] = .ok (.leaf opNum [] 1 (q2 + 2 + 1)) [⟨0, [], q2 + 2 + 1 + 1⟩] := by
        rw [dp_i, implX]
        rw [disj_of c1 (by simp [hd, isT]) (rest_end _), implG, if_neg (by simp [hd, isT])]
      have i2' : (dp (D + 2)).i ([⟨4, [40], q1 + 2 + 1⟩] ++ i2 ++ [⟨4, [41], q3⟩] ++ (⟨4, [61, 62], q2⟩ :: [⟨2, [49], q2 + 2 + 1⟩, ⟨0, [], q2 + 2 + 1 + 1⟩])) = .ok (.bin [61, 62] b (.leaf opNum [] 1 (q2 + 2 + 1)) b.pos) [⟨0, [], q2 + 2 + 1 + 1⟩] :=
        imp_on (disj_imp b1 (by rw [List.append_assoc, head_lp]; rfl)) i3
      have i1' := imp_on (disj_imp a1 (by rw [List.append_assoc, head_lp]; rfl)) i2'
      have hfin : (dp (D + 3)).c ([⟨4, [40], 0⟩] ++ i1 ++ [⟨4, [41], 0 + 1 + s.length⟩] ++ (⟨4, [61, 62], q1⟩ :: ([⟨4, [40], q1 + 2 + 1⟩] ++ i2 ++ [⟨4, [41], q3⟩] ++ (⟨4, [61, 62], q2⟩ :: [⟨2, [49], q2 + 2 + 1⟩, ⟨0, [], q2 + 2 + 1 + 1⟩])))) = .ok (impE a b (q2 + 2 + 1) b.pos a.pos) [⟨0, [], q2 + 2 + 1 + 1⟩] := by
        rw [dp_c, condX, i1', condG, if_neg (by simp [hd, isT])]
        rfl
      exact ⟨a, b, q2 + 2 + 1, _, by rw [hfin]; rfl, a2, b2⟩
end Go.Proofs.YtmgjpjjglghbaaaGreatDoor
