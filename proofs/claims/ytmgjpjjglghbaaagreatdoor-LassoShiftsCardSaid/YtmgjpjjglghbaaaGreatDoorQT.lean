/-
  What is told is read as the same, with no more levels: by kinds and texts of tokens.
-/
import Derived.Test.YtmgjpjjglghbaaaGreatDoorQS
namespace Go.Proofs.YtmgjpjjglghbaaaGreatDoor
abbrev Key := Nat × List UInt8
def tkP (b : Bool) (l : List Key) : List Key := if b then (4, [40]) :: (l ++ [(4, [41])]) else l
/-- The tokens of what is told. -/
def tk : Ex → List Key
  | .leaf op nm n _ => if op = opNum then [(2, dgs n)] else if op = opName then [(1, nm)] else [(1, op)]
  | .un op a _ => (4, if op = opNeg then [45] else [33]) :: tkP (decide (rk a.op < rk op)) (tk a)
  | .bin op a b _ => tkP (decide (rk a.op < lo (rk op) 0)) (tk a) ++ (4, op) :: tkP (decide (rk b.op < lo (rk op) 1)) (tk b)
  | .cond a b c _ => tkP (decide (rk a.op < 1)) (tk a) ++ (4, [63]) :: (tk b ++ (4, [58]) :: tk c)
/-- The tokens us begin with these, and T stands behind. -/
def KT (us T : List Tok) (l : List Key) : Prop := ∃ ini, us = ini ++ T ∧ ini.map key = l
section
variable {us T : List Tok} {l m : List Key}
theorem KT.cons {x : Key} (h : KT us T (x :: l)) : (hd us).kind = x.1 ∧ (hd us).text = x.2 ∧ KT us.tail T l ∧ us = hd us :: us.tail := by
  obtain ⟨ini, rfl, h2⟩ := h
  cases ini with
  | nil => cases h2
  | cons t r =>
    simp only [List.map_cons, List.cons.injEq] at h2
    obtain ⟨rfl, rfl⟩ := h2
    exact ⟨rfl, rfl, ⟨r, rfl, rfl⟩, rfl⟩
theorem KT.nil (h : KT us T []) : us = T := by
  obtain ⟨ini, rfl, h2⟩ := h
  cases ini with
  | nil => rfl
  | cons t r => cases h2
theorem KT.app (h : KT us T (l ++ m)) : ∃ M, KT us M l ∧ KT M T m := by
  obtain ⟨ini, rfl, h2⟩ := h
  refine ⟨ini.drop l.length ++ T, ⟨ini.take l.length, by rw [← List.append_assoc, List.take_append_drop], ?_⟩, ⟨ini.drop l.length, rfl, ?_⟩⟩
  · rw [List.map_take, h2, List.take_left]
  · rw [List.map_drop, h2, List.drop_left]
end
/-- A token behind which nothing of rank k or tighter goes on. -/
structure Sp (k : Nat) (t : Tok) : Prop where
  sg : ∀ j, k ≤ j → j < 8 → sg j t = false
  imp : k ≤ 1 → isT t [61, 62] = false
  cnd : k = 0 → isT t [63] = false
theorem Sp.up {j k : Nat} {t : Tok} (h : Sp j t) (hk : j ≤ k) : Sp k t := ⟨fun i hi hi8 => h.sg i (by omega) hi8, fun h1 => h.imp (by omega), fun h0 => h.cnd (by omega)⟩
/-- The reader of a rank. -/
def rdr (d : Dp) : Nat → List Tok → PR
  | 0 => condX d
  | 1 => implX d
  | 2 => disjX d
  | 3 => conjX d
  | 4 => negX d
  | 5 => compX d
  | 6 => sumX d
  | 7 => prodX d
  | 8 => minusX d
  | _ => atomX d
/-- What no prefix begins, down to a rank. -/
def Hd (k j : Nat) (t : Tok) : Prop := (k ≤ 4 → 4 < j → isT t [33] = false) ∧ (k ≤ 8 → 8 < j → isT t [45] = false)
theorem down1 {d : Dp} {k : Nat} (hk : k < 9) {us T : List Tok} {e : Ex} (h : rdr d (k + 1) us = .ok e T) (hs : Sp k (hd T)) (hh : Hd k (k + 1) (hd us)) : rdr d k us = .ok e T := by
  have : k = 0 ∨ k = 1 ∨ k = 2 ∨ k = 3 ∨ k = 4 ∨ k = 5 ∨ k = 6 ∨ k = 7 ∨ k = 8 := by omega
  rcases this with rfl | rfl | rfl | rfl | rfl | rfl | rfl | rfl | rfl
  · show condX d us = _
    have h' : implX d us = .ok e T := h
    unfold condX; rw [h', condG, if_neg (by rw [hs.cnd rfl]; simp)]
  · show implX d us = _
    have h' : disjX d us = .ok e T := h
    unfold implX; rw [h', implG, if_neg (by rw [hs.imp (by omega)]; simp)]
  · exact chain_once h (hs.sg 2 (by omega) (by omega))
  · exact chain_once h (hs.sg 3 (by omega) (by omega))
  · show negX d us = _
    unfold negX; rw [if_neg (by rw [hh.1 (by omega) (by omega)]; simp)]; exact h
  · show compX d us = _
    have h' : sumX d us = .ok e T := h
    unfold compX; rw [h', compG, if_neg (by rw [hs.sg 5 (by omega) (by omega)]; simp)]
  · exact chain_once h (hs.sg 6 (by omega) (by omega))
  · exact chain_once h (hs.sg 7 (by omega) (by omega))
  · show minusX d us = _
    unfold minusX; rw [if_neg (by rw [hh.2 (by omega) (by omega)]; simp)]; exact h
theorem down {d : Dp} {us T : List Tok} {e : Ex} : ∀ (n k : Nat), k + n ≤ 9 → rdr d (k + n) us = .ok e T → Sp k (hd T) → Hd k (k + n) (hd us) → rdr d k us = .ok e T
  | 0, _, _, h, _, _ => h
  | n + 1, k, hk, h, hs, hh => by
    have h' : rdr d (k + 1 + n) us = .ok e T := by rw [show k + 1 + n = k + (n + 1) by omega]; exact h
    have := down n (k + 1) (by omega) h' (hs.up (by omega)) ⟨fun a b => hh.1 (by omega) (by omega), fun a b => hh.2 (by omega) (by omega)⟩
    exact down1 (by omega) this hs ⟨fun a b => hh.1 a (by omega), fun a b => hh.2 a (by omega)⟩
theorem downTo {d : Dp} {us T : List Tok} {e : Ex} {j k : Nat} (hk : k ≤ j) (hj : j ≤ 9) (h : rdr d j us = .ok e T) (hs : Sp k (hd T)) (hh : Hd k j (hd us)) : rdr d k us = .ok e T := by
  obtain ⟨n, rfl⟩ : ∃ n, j = k + n := ⟨j - k, by omega⟩
  exact down n k hj h hs hh
theorem sp_of {k r : Nat} {x : List UInt8} {t : Tok} (ht : t.text = x) (hr : rk x = r) (hrk : r < k ∨ 8 ≤ r) (h1 : k ≤ 1 → x ≠ [61, 62]) (h0 : k = 0 → x ≠ [63]) : Sp k t :=
  ⟨fun j hj hj8 => by unfold sg; rw [ht, hr]; have : ¬ r = j := by omega
                      simp [this], fun h => by unfold isT; rw [ht]; simp [h1 h], fun h => by unfold isT; rw [ht]; simp [h0 h]⟩
theorem rk_le (x : List UInt8) : rk x ≤ 9 := by unfold rk; repeat' split
                                                all_goals omega
theorem val_snoc (l : List UInt8) (c : UInt8) : valOf (l ++ [c]) = valOf l * 10 + (c.toNat - 48) := by simp [valOf]
theorem val_dgs (n : Nat) : valOf (dgs n) = n := by
  unfold dgs
  induction n using Nat.strongRecOn with
  | _ n ih =>
    rw [Lib.decDigits]
    split
    · rename_i h
      have : (UInt8.ofNat (48 + n)).toNat = 48 + n := by simp; omega
      simp only [valOf, List.foldl_cons, List.foldl_nil, this]
      omega
    · rename_i h
      have : (UInt8.ofNat (48 + n % 10)).toNat = 48 + n % 10 := by simp; omega
      rw [val_snoc, ih (n / 10) (by omega), this]
      omega
/-- What the first token is not. -/
def HdK (j : Nat) (x : Key) : Prop := (4 < j → x.2 ≠ [33] ∨ x.1 = 2) ∧ (8 < j → x.2 ≠ [45] ∨ x.1 = 2)
theorem hd_of {j : Nat} {x : Key} (h : HdK j x) (k : Nat) {t : Tok} (hk : t.kind = x.1) (ht : t.text = x.2) : Hd k j t := by
  refine ⟨fun _ h4 => ?_, fun _ h8 => ?_⟩
  · rcases h.1 h4 with h1 | h1
    · unfold isT; rw [ht]; simp [h1]
    · unfold isT; rw [hk, h1]; rfl
  · rcases h.2 h8 with h1 | h1
    · unfold isT; rw [ht]; simp [h1]
    · unfold isT; rw [hk, h1]; rfl
theorem name_ne {nm : List UInt8} (h : nameL nm) : nm ≠ [33] ∧ nm ≠ [45] := by
  obtain ⟨⟨c, r, rfl, hc⟩, _⟩ := h
  constructor
  · intro e
    simp only [List.cons.injEq] at e
    rw [e.1] at hc
    revert hc
    decide
  · intro e
    simp only [List.cons.injEq] at e
    rw [e.1] at hc
    revert hc
    decide
theorem hd_par {b : Bool} {l : List Key} {j j' : Nat} (h : ∃ x r, l = x :: r ∧ HdK j x) (hj : b = false → (4 < j' → 4 < j) ∧ (8 < j' → 8 < j)) : ∃ x r, tkP b l = x :: r ∧ HdK j' x := by
  cases b with
  | true => exact ⟨_, _, rfl, fun _ => .inl (by decide), fun _ => .inl (by decide)⟩
  | false =>
    obtain ⟨x, r, h1, h2⟩ := h
    obtain ⟨h3, h4⟩ := hj rfl
    exact ⟨x, r, by simpa [tkP] using h1, fun h => h2.1 (h3 h), fun h => h2.2 (h4 h)⟩
theorem hd_tk : ∀ e, Ok e → ∃ x l, tk e = x :: l ∧ HdK (rk e.op) x
  | .leaf op nm n _, h => by
    rcases h with ⟨rfl, _⟩ | ⟨rfl, _, hn, _⟩ | ⟨ho, _⟩
    · exact ⟨(2, dgs n), [], by simp [tk], fun _ => .inr rfl, fun _ => .inr rfl⟩
    · have hne : ¬ opName = opNum := by decide
      exact ⟨(1, nm), [], by simp [tk, hne], fun _ => .inl (name_ne hn).1, fun _ => .inl (name_ne hn).2⟩
    · have h1 : ¬ op = opNum := by rcases ho with rfl | rfl <;> decide
      have h2 : ¬ op = opName := by rcases ho with rfl | rfl <;> decide
      exact ⟨(1, op), [], by simp [tk, h1, h2], fun _ => .inl (by rcases ho with rfl | rfl <;> decide), fun _ => .inl (by rcases ho with rfl | rfl <;> decide)⟩
  | .un op a _, h => by
    rcases h.1 with rfl | rfl
    · exact ⟨_, _, rfl, fun h => absurd h (by simp [Ex.op, rk_not]), fun h => absurd h (by simp [Ex.op, rk_not])⟩
    · exact ⟨_, _, rfl, fun _ => .inl (by simp), fun h => absurd h (by simp [Ex.op, rk_neg])⟩
  | .bin op a b _, h => by
    obtain ⟨x, r, h1, h2⟩ := hd_par (b := decide (rk a.op < lo (rk op) 0)) (j' := rk op) (hd_tk a h.2.1) (fun hb => by
      have hb' : lo (rk op) 0 ≤ rk a.op := by simpa using hb
      have := h.1
      constructor
      · intro h4
        have : lo (rk op) 0 = 6 ∨ lo (rk op) 0 = 7 := by
          rcases (by omega : rk op = 5 ∨ rk op = 6 ∨ rk op = 7) with e | e | e <;> rw [e] <;> decide
        omega
      · omega)
    exact ⟨x, _, by rw [tk, h1]; rfl, h2⟩
  | .cond a b c _, h => by
    obtain ⟨x, r, h1, h2⟩ := hd_par (b := decide (rk a.op < 1)) (j' := 0) (hd_tk a h.1) (fun _ => by omega)
    exact ⟨x, _, by rw [tk, h1]; rfl, by rw [Ex.op, rk_cond]; exact h2⟩
def Bk (e : Ex) : Prop := ∀ (k lv : Nat) (us T : List Tok), k ≤ 9 → nk k e ≤ lv → KT us T (tkP (decide (rk e.op < k)) (tk e)) → Sp k (hd T) → ∃ e', rdr (dp lv) k us = .ok e' T ∧ e'.bare = e.bare
def Core (e : Ex) : Prop := ∀ (lv : Nat) (us T : List Tok), nd e ≤ lv → KT us T (tk e) → Sp (rk e.op) (hd T) → ∃ e', rdr (dp lv) (rk e.op) us = .ok e' T ∧ e'.bare = e.bare
def Ch (e : Ex) : Prop := ∀ (k lv : Nat) (us T : List Tok), chK k → nk k e ≤ lv → KT us T (tkP (decide (rk e.op < k)) (tk e)) → Sp (k + 1) (hd T) → ∃ e', chainX k (rdr (dp lv) (k + 1)) us = chainF k (rdr (dp lv) (k + 1)) T.length e' T ∧ e'.bare = e.bare
theorem bk_of {e : Ex} (hO : Ok e) (h : Core e) : Bk e := by
  intro k lv us T hk hl hkt hs
  obtain ⟨x, l, htk, hx⟩ := hd_tk e hO
  by_cases hp : rk e.op < k
  · rw [decide_eq_true hp] at hkt
    simp only [tkP, if_true] at hkt
    have hl' : 1 + nd e ≤ lv := by unfold nk at hl; rw [if_pos hp] at hl; exact hl
    obtain ⟨l', rfl⟩ : ∃ l', lv = l' + 1 := ⟨lv - 1, by omega⟩
    obtain ⟨h1, h2, h3, h4⟩ := hkt.cons
    obtain ⟨M, h5, h6⟩ := h3.app
    obtain ⟨h7, h8, h9, h10⟩ := h6.cons
    have hM : M.tail = T := h9.nil
    have rk41 : rk [41] = 9 := by decide
    obtain ⟨e1, h11, h12⟩ := h l' us.tail M (by omega) h5 (sp_of h8 rk41 (by omega) (by simp) (by simp))
    have h5' := h5
    rw [htk] at h5'
    obtain ⟨h13, h14, _, _⟩ := h5'.cons
    have h15 := downTo (k := 0) (Nat.zero_le _) (rk_le _) h11 (sp_of h8 rk41 (by omega) (by simp) (by simp)) (hd_of hx 0 h13 h14)
    have h16 : atomX (dp (l' + 1)) us = .ok (e1.move (hd us).pos) T := by
      unfold atomX
      rw [if_pos (by unfold isT; rw [h1, h2]; rfl)]
      have : (dp (l' + 1)).c us.tail = .ok e1 M := h15
      rw [this, enclosedX, if_pos (by unfold isT; rw [h7, h8]; rfl), hM]
    refine ⟨e1.move (hd us).pos, downTo (j := 9) hk (by omega) h16 hs ⟨fun _ _ => by unfold isT; rw [h2]; simp, fun _ _ => by unfold isT; rw [h2]; simp⟩, by rw [bare_move, h12]⟩
  · rw [decide_eq_false hp] at hkt
    simp only [tkP] at hkt
    have hl' : nd e ≤ lv := by unfold nk at hl; rw [if_neg hp] at hl; exact hl
    have hkt' : KT us T (tk e) := by simpa using hkt
    obtain ⟨e1, h11, h12⟩ := h lv us T hl' hkt' (hs.up (by omega))
    have h5' := hkt'
    rw [htk] at h5'
    obtain ⟨h13, h14, _, _⟩ := h5'.cons
    exact ⟨e1, downTo (by omega) (rk_le _) h11 hs (hd_of hx k h13 h14), h12⟩
theorem ch_of {e : Ex} (h : Bk e) {k lv : Nat} {us T : List Tok} (hk : chK k) (hne : rk e.op ≠ k) (hl : nk k e ≤ lv) (hkt : KT us T (tkP (decide (rk e.op < k)) (tk e))) (hs : Sp (k + 1) (hd T)) : ∃ e', chainX k (rdr (dp lv) (k + 1)) us = chainF k (rdr (dp lv) (k + 1)) T.length e' T ∧ e'.bare = e.bare := by
  have e1 : decide (rk e.op < k) = decide (rk e.op < k + 1) := by
    by_cases h : rk e.op < k
    · rw [decide_eq_true h, decide_eq_true (by omega)]
    · rw [decide_eq_false h, decide_eq_false (by omega)]
  have e2 : nk k e = nk (k + 1) e := by
    unfold nk
    by_cases h : rk e.op < k
    · rw [if_pos h, if_pos (by omega)]
    · rw [if_neg h, if_neg (by omega)]
  rw [e1] at hkt
  rw [e2] at hl
  obtain ⟨e', h1, h2⟩ := h (k + 1) lv us T (by unfold chK at hk; omega) hl hkt hs
  exact ⟨e', by unfold chainX; rw [h1]; rfl, h2⟩
theorem rk_one {x : List UInt8} (h : rk x = 1) : x = [61, 62] := by
  unfold rk at h
  split at h
  · omega
  · split at h
    · assumption
    · repeat' split at h
      all_goals omega
theorem name_par {nm : List UInt8} (h : nameL nm) : nm ≠ [40] := by
  obtain ⟨⟨c, r, rfl, hc⟩, _⟩ := h
  intro e
  simp only [List.cons.injEq] at e
  rw [e.1] at hc
  revert hc
  decide
theorem core_leaf {op nm : List UInt8} {n p : Nat} (hO : Ok (.leaf op nm n p)) : Core (.leaf op nm n p) := by
  intro lv us T _ hkt _
  rcases hO with ⟨rfl, rfl, _⟩ | ⟨rfl, rfl, hn, ht, hf⟩ | ⟨ho, rfl, rfl⟩
  · have h9 : rk opNum = 9 := by decide
    rw [Ex.op, h9]
    have hkt' : KT us T [(2, dgs n)] := by simpa [tk] using hkt
    obtain ⟨h1, h2, h3, _⟩ := hkt'.cons
    refine ⟨.leaf opNum [] (valOf (hd us).text) (hd us).pos, ?_, by rw [h2, val_dgs]; rfl⟩
    show atomX (dp lv) us = _
    unfold atomX
    rw [if_neg (by unfold isT; rw [h1]; simp), if_neg (by rw [h1]; simp), if_pos h1, h3.nil]
  · have h9 : rk opName = 9 := by decide
    have hne : ¬ opName = opNum := by decide
    rw [Ex.op, h9]
    have hkt' : KT us T [(1, nm)] := by simpa [tk, hne] using hkt
    obtain ⟨h1, h2, h3, _⟩ := hkt'.cons
    have h2' : (hd us).text = nm := h2
    refine ⟨.leaf opName nm 0 (hd us).pos, ?_, rfl⟩
    show atomX (dp lv) us = _
    unfold atomX
    rw [if_neg (by unfold isT; rw [h2']; simp [name_par hn]), if_pos h1, h3.nil, h2', wordX, if_neg (by simp [ht, hf])]
  · have h9 : rk op = 9 := by rcases ho with rfl | rfl <;> decide
    have n1 : ¬ op = opNum := by rcases ho with rfl | rfl <;> decide
    have n2 : ¬ op = opName := by rcases ho with rfl | rfl <;> decide
    have n3 : ¬ op = [40] := by rcases ho with rfl | rfl <;> decide
    rw [Ex.op, h9]
    have hkt' : KT us T [(1, op)] := by simpa [tk, n1, n2] using hkt
    obtain ⟨h1, h2, h3, _⟩ := hkt'.cons
    have h2' : (hd us).text = op := h2
    refine ⟨.leaf op [] 0 (hd us).pos, ?_, rfl⟩
    show atomX (dp lv) us = _
    unfold atomX
    rw [if_neg (by unfold isT; rw [h2']; simp [n3]), if_pos h1, h3.nil, h2', wordX, if_pos ho]
theorem core_not {a : Ex} {p : Nat} (ha : Bk a) : Core (.un [33] a p) := by
  intro lv us T hl hkt hs
  rw [nd_un, rk_not] at hl
  rw [Ex.op, rk_not] at hs ⊢
  have hne : ¬ ([33] : List UInt8) = opNeg := by decide
  rw [tk, if_neg hne, rk_not] at hkt
  obtain ⟨h1, h2, h3, _⟩ := hkt.cons
  obtain ⟨l, rfl⟩ : ∃ l, lv = l + 1 := ⟨lv - 1, by omega⟩
  obtain ⟨a', h4, h5⟩ := ha 4 l us.tail T (by omega) (by omega) h3 hs
  refine ⟨.un [33] a' (hd us).pos, ?_, by simp [Ex.bare, h5]⟩
  show negX (dp (l + 1)) us = _
  unfold negX
  rw [if_pos (by unfold isT; rw [h1, h2]; rfl)]
  have : (dp (l + 1)).n us.tail = .ok a' T := h4
  rw [this]
  rfl
theorem core_neg {a : Ex} {p : Nat} (ha : Bk a) : Core (.un opNeg a p) := by
  intro lv us T hl hkt hs
  rw [nd_un, rk_neg] at hl
  rw [Ex.op, rk_neg] at hs ⊢
  rw [tk, if_pos rfl, rk_neg] at hkt
  obtain ⟨h1, h2, h3, _⟩ := hkt.cons
  obtain ⟨l, rfl⟩ : ∃ l, lv = l + 1 := ⟨lv - 1, by omega⟩
  obtain ⟨a', h4, h5⟩ := ha 8 l us.tail T (by omega) (by omega) h3 hs
  refine ⟨.un opNeg a' (hd us).pos, ?_, by simp [Ex.bare, h5]⟩
  show minusX (dp (l + 1)) us = _
  unfold minusX
  rw [if_pos (by unfold isT; rw [h1, h2]; rfl)]
  have : (dp (l + 1)).m us.tail = .ok a' T := h4
  rw [this]
  rfl
theorem core_imp {op : List UInt8} {a b : Ex} {p : Nat} (hr : rk op = 1) (ha : Bk a) (hb : Bk b) : Core (.bin op a b p) := by
  intro lv us T hl hkt hs
  obtain rfl := rk_one hr
  rw [nd_imp hr] at hl
  rw [Ex.op, hr] at hs ⊢
  rw [tk, hr, show lo 1 0 = 2 from rfl, show lo 1 1 = 1 from rfl] at hkt
  obtain ⟨M, h1, h2⟩ := hkt.app
  obtain ⟨h3, h4, h5, _⟩ := h2.cons
  obtain ⟨a', h6, h7⟩ := ha 2 lv us M (by omega) (by omega) h1 (sp_of h4 hr (by omega) (by omega) (by omega))
  obtain ⟨l, rfl⟩ : ∃ l, lv = l + 1 := ⟨lv - 1, by omega⟩
  obtain ⟨b', h8, h9⟩ := hb 1 l M.tail T (by omega) (by omega) h5 hs
  refine ⟨.bin [61, 62] a' b' a'.pos, ?_, by simp [Ex.bare, h7, h9]⟩
  show implX (dp (l + 1)) us = _
  have h6' : disjX (dp (l + 1)) us = .ok a' M := h6
  have h8' : (dp (l + 1)).i M.tail = .ok b' T := h8
  unfold implX
  rw [h6', implG, if_pos (by unfold isT; rw [h3, h4]; rfl), h8']
  rfl
theorem core_cmp {op : List UInt8} {a b : Ex} {p : Nat} (hr : rk op = 5) (ha : Bk a) (hb : Bk b) : Core (.bin op a b p) := by
  intro lv us T hl hkt hs
  rw [nd_cmp hr] at hl
  rw [Ex.op, hr] at hs ⊢
  rw [tk, hr, show lo 5 0 = 6 from rfl, show lo 5 1 = 6 from rfl] at hkt
  obtain ⟨M, h1, h2⟩ := hkt.app
  obtain ⟨h3, h4, h5, _⟩ := h2.cons
  have h4' : (hd M).text = op := h4
  obtain ⟨a', h6, h7⟩ := ha 6 lv us M (by omega) (by omega) h1 (sp_of h4 hr (by omega) (by omega) (by omega))
  obtain ⟨b', h8, h9⟩ := hb 6 lv M.tail T (by omega) (by omega) h5 (hs.up (by omega))
  refine ⟨.bin op a' b' a'.pos, ?_, by simp [Ex.bare, h7, h9]⟩
  show compX (dp lv) us = _
  have h6' : sumX (dp lv) us = .ok a' M := h6
  have h8' : sumX (dp lv) M.tail = .ok b' T := h8
  unfold compX
  rw [h6', compG, if_pos (by unfold sg; rw [h3, h4', hr]; rfl), h8', h4']
  rfl
theorem core_cond {a b c : Ex} {p : Nat} (ha : Bk a) (hb : Bk b) (hc : Bk c) : Core (.cond a b c p) := by
  intro lv us T hl hkt hs
  rw [nd_cond] at hl
  rw [Ex.op, rk_cond] at hs ⊢
  rw [tk] at hkt
  obtain ⟨M, h1, h2⟩ := hkt.app
  obtain ⟨h3, h4, h5, _⟩ := h2.cons
  obtain ⟨N, h6, h7⟩ := h5.app
  obtain ⟨h8, h9, h10, _⟩ := h7.cons
  have rk58 : rk [58] = 9 := by decide
  obtain ⟨a', k1, k2⟩ := ha 1 lv us M (by omega) (by omega) h1 (sp_of h4 rk_cond (by omega) (fun _ => by simp) (by omega))
  obtain ⟨l, rfl⟩ : ∃ l, lv = l + 1 := ⟨lv - 1, by omega⟩
  have z : ∀ e : Ex, nk 0 e = nd e := fun e => by simp [nk]
  obtain ⟨b', k3, k4⟩ := hb 0 l M.tail N (by omega) (by rw [z]; omega) (by simpa [tkP] using h6) (sp_of h9 rk58 (by omega) (fun _ => by simp) (fun _ => by simp))
  obtain ⟨c', k5, k6⟩ := hc 0 l N.tail T (by omega) (by rw [z]; omega) (by simpa [tkP] using h10) hs
  refine ⟨.cond a' b' c' a'.pos, ?_, by simp [Ex.bare, k2, k4, k6]⟩
  show condX (dp (l + 1)) us = _
  have k1' : implX (dp (l + 1)) us = .ok a' M := k1
  have k3' : (dp (l + 1)).c M.tail = .ok b' N := k3
  have k5' : (dp (l + 1)).c N.tail = .ok c' T := k5
  unfold condX
  rw [k1', condG, if_pos (by unfold isT; rw [h3, h4]; rfl), k3', condH, if_pos (by unfold isT; rw [h8, h9]; rfl), k5']
  rfl
theorem ch_bin {op : List UInt8} {a b : Ex} {p k : Nat} (hk : chK k) (hr : rk op = k) (ha : Ch a) (hb : Bk b) {lv : Nat} {us T : List Tok} (hl : nd (.bin op a b p) ≤ lv) (hkt : KT us T (tk (.bin op a b p))) (hs : Sp (k + 1) (hd T)) :
    ∃ e', chainX k (rdr (dp lv) (k + 1)) us = chainF k (rdr (dp lv) (k + 1)) T.length e' T ∧ e'.bare = (Ex.bin op a b p).bare := by
  rw [nd_chain hk hr] at hl
  have e0 : lo (rk op) 0 = k := by rw [hr]; rcases hk with rfl | rfl | rfl | rfl <;> rfl
  have e1 : lo (rk op) 1 = k + 1 := by rw [hr]; rcases hk with rfl | rfl | rfl | rfl <;> rfl
  rw [tk, e0, e1] at hkt
  have hk' := hk
  unfold chK at hk'
  obtain ⟨M, h1, h2⟩ := hkt.app
  obtain ⟨h3, h4, h5, _⟩ := h2.cons
  have h4' : (hd M).text = op := h4
  obtain ⟨a', h7, h8⟩ := ha k lv us M hk (by omega) h1 (sp_of h4 hr (by omega) (by omega) (by omega))
  obtain ⟨b', h9, h10⟩ := hb (k + 1) lv M.tail T (by omega) (by omega) h5 hs
  have hS : Shr (rdr (dp lv) (k + 1)) := by
    rcases hk with rfl | rfl | rfl | rfl
    · exact (shr_lv lv).a
    · exact (shr_lv lv).n
    · exact (shr_lv lv).p
    · exact (shr_lv lv).m
  refine ⟨.bin op a' b' a'.pos, ?_, by simp [Ex.bare, h8, h10]⟩
  rw [h7, (chain_go hS (by unfold sg; rw [h3, h4', hr]; simp) h9).1, h4']
theorem core_chain {op : List UInt8} {a b : Ex} {p k : Nat} (hk : chK k) (hr : rk op = k) (ha : Ch a) (hb : Bk b) : Core (.bin op a b p) := by
  intro lv us T hl hkt hs
  rw [Ex.op, hr] at hs ⊢
  obtain ⟨e', h1, h2⟩ := ch_bin hk hr ha hb hl hkt (hs.up (by omega))
  have hk' := hk
  unfold chK at hk'
  rw [chain_stop (hs.sg k (Nat.le_refl _) (by omega))] at h1
  refine ⟨e', ?_, h2⟩
  rcases hk with rfl | rfl | rfl | rfl <;> exact h1
theorem back_all : ∀ e, Ok e → Bk e ∧ Ch e
  | .leaf op nm n p, h => by
    have b := bk_of h (core_leaf h)
    have h9 : rk op = 9 := by
      rcases h with ⟨rfl, _⟩ | ⟨rfl, _⟩ | ⟨rfl | rfl, _⟩ <;> decide
    exact ⟨b, fun k lv us T hk => ch_of b hk (by rw [Ex.op, h9]; unfold chK at hk; omega)⟩
  | .un op a p, h => by
    obtain ⟨ha, _⟩ := back_all a h.2
    rcases h.1 with rfl | rfl
    · have b := bk_of h (core_not ha)
      exact ⟨b, fun k lv us T hk => ch_of b hk (by rw [Ex.op, rk_not]; unfold chK at hk; omega)⟩
    · have b := bk_of h (core_neg ha)
      exact ⟨b, fun k lv us T hk => ch_of b hk (by rw [Ex.op, rk_neg]; unfold chK at hk; omega)⟩
  | .cond a b c p, h => by
    have b := bk_of h (core_cond (back_all a h.1).1 (back_all b h.2.1).1 (back_all c h.2.2).1)
    exact ⟨b, fun k lv us T hk => ch_of b hk (by rw [Ex.op, rk_cond]; unfold chK at hk; omega)⟩
  | .bin op a b p, h => by
    obtain ⟨ha, ca⟩ := back_all a h.2.1
    obtain ⟨hb, _⟩ := back_all b h.2.2
    by_cases hk : chK (rk op)
    · have B := bk_of h (core_chain hk rfl ca hb)
      refine ⟨B, fun k lv us T hk' hl hkt hs => ?_⟩
      by_cases he : rk op = k
      · have e0 : decide (rk (Ex.bin op a b p).op < k) = false := decide_eq_false (by rw [Ex.op, he]; omega)
        rw [e0] at hkt
        rw [nk_top (by rw [Ex.op, he]; omega)] at hl
        exact ch_bin hk' he ca hb hl (by simpa [tkP] using hkt) hs
      · exact ch_of B hk' he hl hkt hs
    · have hr : rk op = 1 ∨ rk op = 5 := by
        have := h.1
        unfold chK at hk
        omega
      rcases hr with hr | hr
      · have B := bk_of h (core_imp hr ha hb)
        exact ⟨B, fun k lv us T hk' => ch_of B hk' (by rw [Ex.op, hr]; unfold chK at hk'; omega)⟩
      · have B := bk_of h (core_cmp hr ha hb)
        exact ⟨B, fun k lv us T hk' => ch_of B hk' (by rw [Ex.op, hr]; unfold chK at hk'; omega)⟩
/-- What is told is read as the same, with the levels that it needs. -/
theorem told_read {e : Ex} (h : Ok e) {D : Nat} (hD : 1 + nd e ≤ D) {us : List Tok} {E : Tok} (hE : E.kind = 0) (hk : us.map key = tk e) : ∃ e', endX ((dp D).c (us ++ [E])) = .ok e' [E] ∧ e'.bare = e.bare := by
  obtain ⟨l, rfl⟩ : ∃ l, D = l + 1 := ⟨D - 1, by omega⟩
  have z : nk 0 e = nd e := by simp [nk]
  obtain ⟨e', h1, h2⟩ := (back_all e h).1 0 l (us ++ [E]) [E] (by omega) (by rw [z]; omega) ⟨us, rfl, by simpa [tkP] using hk⟩ ⟨fun j _ _ => by simp [hd, sg, hE], fun _ => by simp [hd, isT, hE], fun _ => by simp [hd, isT, hE]⟩
  refine ⟨e', ?_, h2⟩
  have : (dp (l + 1)).c (us ++ [E]) = .ok e' [E] := h1
  rw [this, endX, if_pos (by simpa [hd] using hE)]
end Go.Proofs.YtmgjpjjglghbaaaGreatDoor
