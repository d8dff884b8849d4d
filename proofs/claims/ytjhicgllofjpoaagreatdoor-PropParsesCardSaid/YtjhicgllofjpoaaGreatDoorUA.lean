/-
  What is read of a text: its labels are those of tokens, it needs no more levels than there were, and is told in no more than five times its length. Formulas that are told are read as the same, with the levels that they need: by kinds and texts of tokens. The tokens of a formula that is told. Questions: how they are read, how they are told, there and back. Plain lists, nothing of the program.
-/
import Derived.Test.YtjhicgllofjpoaaGreatDoorJA
namespace Go.Proofs.YtjhicgllofjpoaaGreatDoor
section
/-- A label's text. -/
def labL (l : List UInt8) : Prop := 0 < l.length ∧ l.length ≤ 32 ∧ ∀ x ∈ l, labelB x = true
def OkL : Fo → Prop
  | .leaf op nm _ => op = opLab → labL nm
  | .un _ a _ => OkL a
  | .bin _ a b _ => OkL a ∧ OkL b
theorem okl_move (q : Nat) : ∀ {e : Fo}, OkL e → OkL (e.move q)
  | .leaf _ _ _, h => h
  | .un _ _ _, h => h
  | .bin _ _ _ _, h => h
/-- How many levels it needs. -/
def ndF : Fo → Nat
  | .leaf _ _ _ => 0
  | .un _ a _ => 1 + (if pk a.op < 4 then 1 + ndF a else ndF a)
  | .bin op a b _ =>
    if pk op = 0 ∨ pk op = 3 then max (if pk a.op < pk op + 1 then 1 + ndF a else ndF a) (1 + (if pk b.op < pk op then 1 + ndF b else ndF b))
    else max (if pk a.op < pk op then 1 + ndF a else ndF a) (if pk b.op < pk op + 1 then 1 + ndF b else ndF b)
def nkF (k : Nat) (e : Fo) : Nat := if pk e.op < k then 1 + ndF e else ndF e
theorem nkf_mono {j k : Nat} (h : j ≤ k) (e : Fo) : nkF j e ≤ nkF k e := by
  unfold nkF
  split <;> split <;> omega
theorem nkf_le (k : Nat) (e : Fo) : nkF k e ≤ 1 + ndF e := by unfold nkF; split <;> omega
theorem nkf_zero (e : Fo) : nkF 0 e = ndF e := by unfold nkF; rw [if_neg (by omega)]
theorem nkf_top {k : Nat} {e : Fo} (h : k ≤ pk e.op) : nkF k e = ndF e := by unfold nkF; rw [if_neg (by omega)]
theorem ndf_move (q : Nat) (e : Fo) : ndF (e.move q) = ndF e := by cases e <;> rfl
theorem fop_move (q : Nat) (e : Fo) : (e.move q).op = e.op := by cases e <;> rfl
theorem nkf_move (q k : Nat) (e : Fo) : nkF k (e.move q) = nkF k e := by unfold nkF; rw [ndf_move, fop_move]
theorem tlf_move (q : Nat) (e : Fo) : tlF (e.move q) = tlF e := by cases e <;> rfl
theorem ndf_un (op : List UInt8) (a : Fo) (p : Nat) : ndF (.un op a p) = 1 + nkF 4 a := rfl
theorem ndf_right {k : Nat} (hk : k = 0 ∨ k = 3) {op : List UInt8} (h : pk op = k) (a b : Fo) (p : Nat) : ndF (.bin op a b p) = max (nkF (k + 1) a) (1 + nkF k b) := by
  subst h
  unfold ndF nkF
  rw [if_pos hk]
theorem ndf_left {k : Nat} (hk : k = 1 ∨ k = 2) {op : List UInt8} (h : pk op = k) (a b : Fo) (p : Nat) : ndF (.bin op a b p) = max (nkF k a) (nkF (k + 1) b) := by
  subst h
  unfold ndF nkF
  rw [if_neg (by omega)]
/-- The tokens' labels are labels. -/
def Lb : St → Prop
  | .good us => ∀ t ∈ us, t.kind = 3 → labL t.text
  | .bad _ _ => True
def sumF (us : List Tok) : Nat := (us.map fun t => (full t).length).sum
def sumS : St → Nat
  | .good us => sumF us
  | .bad _ _ => 0
theorem sumf_hd {us : List Tok} (h : us ≠ []) : sumF us = (full (hd us)).length + sumF us.tail := by
  cases us with
  | nil => exact absurd rfl h
  | cons t r => simp [sumF, hd]
/-- Labels, and no more text, than there was. -/
structure Ls (a b : St) : Prop where
  lb : Lb b → Lb a
  sm : sumS a ≤ sumS b
theorem Ls.refl (a : St) : Ls a a := ⟨id, Nat.le_refl _⟩
theorem Ls.trans {a b c : St} (h : Ls a b) (k : Ls b c) : Ls a c := ⟨fun x => h.lb (k.lb x), Nat.le_trans h.sm k.sm⟩
theorem ls_fail (c : Nat) (st : St) : Ls (st.fail c) st := by
  cases st with
  | bad c p => exact Ls.refl _
  | good us => exact ⟨fun _ => trivial, Nat.zero_le _⟩
theorem ls_tl (st : St) : Ls st.tl st := by
  cases st with
  | bad c p => exact Ls.refl _
  | good us =>
    refine ⟨fun h t ht => h t (List.mem_of_mem_tail ht), ?_⟩
    cases us with
    | nil => exact Nat.le_refl _
    | cons t r => show sumF r ≤ sumF (t :: r); simp [sumF]
theorem ls_want (x : List UInt8) (st : St) : Ls (st.want x) st := by
  unfold St.want
  split
  · exact ls_tl st
  · exact ls_fail 20 st
theorem sum_tl {st : St} (h : st.hd.kind ≠ 0) : sumS st = (full st.hd).length + sumS st.tl := by
  obtain ⟨us, rfl, hu⟩ := hd_bad h
  exact sumf_hd hu
theorem lb_hd {st : St} (h : Lb st) (h3 : st.hd.kind = 3) : labL st.hd.text := by
  obtain ⟨us, rfl, hu⟩ := hd_bad (st := st) (by omega)
  cases us with
  | nil => exact absurd rfl hu
  | cons t r => exact h t List.mem_cons_self h3
theorem full_ne {t : Tok} (h : t.kind ≠ 3) : full t = t.text := by unfold full; rw [if_neg h]
theorem want_some {x : List UInt8} {st : St} : sumS (st.want x) ≤ sumS st := (ls_want x st).sm
/-- What each reader keeps to. -/
structure RdX (F : St → RF) (m : Fo → Nat) (lv : Nat) : Prop where
  ls : ∀ st, Ls (F st).2 st
  ok : ∀ st e, Lb st → (F st).1 = some e → OkL e ∧ m e ≤ lv ∧ (tlF e).length + 2 + 5 * sumS (F st).2 ≤ 5 * sumS st
structure RdD (d : Dq) (lv : Nat) : Prop where
  f : RdX d.f (fun e => 1 + nkF 0 e) lv
  u : RdX d.u (fun e => 1 + nkF 3 e) lv
  x : RdX d.x (fun e => 1 + nkF 4 e) lv
theorem parf_len (b : Bool) (l : List UInt8) : (parX b l).length ≤ l.length + 2 := by cases b <;> simp [parX]
theorem pkf_ne {x : List UInt8} {k : Nat} (h : pk x = k) (hk : k ≠ 5) : 1 ≤ x.length := by
  cases x with
  | nil => exact absurd h (by simp [pk]; omega)
  | cons c r => simp
theorem tlf_un_len (op : List UInt8) (a : Fo) (p : Nat) : (tlF (.un op a p)).length ≤ (tlF a).length + op.length + 3 := by
  have h1 := parf_len (decide (pk a.op < pk op)) (tlF a)
  rw [tlF]
  by_cases h : op = [33]
  · rw [if_pos h]; simp only [List.length_append, List.length_nil]; omega
  · rw [if_neg h]; simp only [List.length_append, List.length_cons, List.length_nil]; omega
theorem tlf_bin_len (op : List UInt8) (a b : Fo) (p : Nat) : (tlF (.bin op a b p)).length ≤ (tlF a).length + (tlF b).length + op.length + 6 := by
  have h1 := parf_len (decide (pk a.op < loP (pk op) 0)) (tlF a)
  have h2 := parf_len (decide (pk b.op < loP (pk op) 1)) (tlF b)
  rw [tlF]
  simp only [List.length_append, List.length_cons, List.cons_append]
  omega
theorem isT_text' {t : Tok} {x : List UInt8} (h : isT t x = true) : t.text = x ∧ t.kind ≠ 3 := by
  simp only [isT, Bool.and_eq_true, Bool.or_eq_true, beq_iff_eq] at h
  exact ⟨h.2, by omega⟩
theorem sp_full {t : Tok} {k : Nat} (hk : k ≠ 5) (h : sp k t = true) : full t = t.text ∧ 1 ≤ t.text.length := by
  have h2 := (sp_kind h).2
  simp only [sp, Bool.and_eq_true, Bool.or_eq_true, beq_iff_eq] at h
  exact ⟨full_ne (by omega), pkf_ne h2 hk⟩
theorem mv_some {p : Nat} {o : Option Fo} {e : Fo} (h : mvO p o = some e) : ∃ a, o = some a ∧ e = a.move p := by
  cases o with
  | none => cases h
  | some a => injection h with h; exact ⟨a, rfl, h.symm⟩
theorem un_some {op : List UInt8} {p : Nat} {o : Option Fo} {e : Fo} (h : unO op p o = some e) : ∃ a, o = some a ∧ e = .un op a p := by
  cases o with
  | none => cases h
  | some a => injection h with h; exact ⟨a, rfl, h.symm⟩
theorem rdx_encl {d : Dq} {lv : Nat} (h : RdD d lv) (p : Nat) (st : St) : Ls (enclS d p st).2 st ∧ ∀ e, Lb st → (enclS d p st).1 = some e → OkL e ∧ nkF 5 e ≤ lv ∧ (tlF e).length + 2 + 5 * sumS (enclS d p st).2 ≤ 5 * sumS st := by
  have hw := ls_want [41] (d.f st).2
  refine ⟨hw.trans (h.f.ls st), fun e hl he => ?_⟩
  obtain ⟨a, ha, rfl⟩ := mv_some he
  obtain ⟨h1, h2, h3⟩ := h.f.ok st a hl ha
  refine ⟨okl_move p h1, ?_, ?_⟩
  · rw [nkf_move]
    have := nkf_le 5 a
    rw [nkf_zero] at h2
    omega
  · rw [tlf_move]
    have := hw.sm
    show (tlF a).length + 2 + 5 * sumS ((d.f st).2.want [41]) ≤ _
    omega
theorem rdx_atom {d : Dq} {lv : Nat} (h : RdD d lv) : RdX (atomS d) (nkF 5) lv := by
  refine ⟨fun st => ?_, fun st e hl he => ?_⟩
  · unfold atomS
    split
    · exact ls_tl st
    · split
      · exact ls_tl st
      · split
        · exact ls_tl st
        · split
          · exact (rdx_encl h _ _).1.trans (ls_tl st)
          · exact ls_fail 20 st
  · have leaf : ∀ {x : List UInt8}, (x = opTrue ∨ x = opFalse) → isT st.hd x = true → OkL (.leaf x [] st.hd.pos) ∧ nkF 5 (.leaf x [] st.hd.pos) ≤ lv ∧ (tlF (.leaf x [] st.hd.pos)).length + 2 + 5 * sumS st.tl ≤ 5 * sumS st := by
      intro x hx hi
      obtain ⟨ht, hk⟩ := isT_text' hi
      have hs := sum_tl (isT_kind hi)
      rw [full_ne hk, ht] at hs
      have hne : x ≠ opLab := by rcases hx with rfl | rfl <;> decide
      refine ⟨fun e => absurd e hne, ?_, ?_⟩
      · have : pk x = 5 := by rcases hx with rfl | rfl <;> decide
        unfold nkF; rw [if_neg (by show ¬ pk x < 5; omega)]; exact Nat.zero_le _
      · have : 1 ≤ x.length := by rcases hx with rfl | rfl <;> decide
        rw [tlF, if_neg hne]
        omega
    unfold atomS at he ⊢
    split at he
    · next g =>
      rw [if_pos g]
      injection he with he
      subst he
      have hs := sum_tl (st := st) (by omega)
      have hf : (full st.hd).length = st.hd.text.length + 2 := by unfold full; rw [if_pos g]; simp
      refine ⟨fun _ => lb_hd hl g, ?_, ?_⟩
      · unfold nkF; rw [if_neg (by show ¬ pk opLab < 5; decide)]; exact Nat.zero_le _
      · rw [tlF, if_pos rfl]
        simp only [List.length_cons, List.length_append, List.length_nil]
        omega
    · next g =>
      rw [if_neg g]
      split at he
      · next g => rw [if_pos g]; injection he with he; subst he; exact leaf (.inl rfl) g
      · next g =>
        rw [if_neg g]
        split at he
        · next g => rw [if_pos g]; injection he with he; subst he; exact leaf (.inr rfl) g
        · next g =>
          rw [if_neg g]
          split at he
          · next g =>
            rw [if_pos g]
            obtain ⟨h1, h2, h3⟩ := (rdx_encl h _ _).2 e ((ls_tl st).lb hl) he
            have := (ls_tl st).sm
            exact ⟨h1, h2, by omega⟩
          · cases he
theorem rdx_pref {d : Dq} {lv : Nat} (h : RdD d lv) : RdX (prefS d) (nkF 4) lv := by
  have ha := rdx_atom h
  refine ⟨fun st => ?_, fun st e hl he => ?_⟩
  · unfold prefS
    split
    · exact (h.x.ls _).trans (ls_tl st)
    · exact ha.ls st
  · unfold prefS at he ⊢
    split at he
    · next g =>
      rw [if_pos g]
      obtain ⟨a, h1, rfl⟩ := un_some he
      obtain ⟨h2, h3, h4⟩ := h.x.ok st.tl a ((ls_tl st).lb hl) h1
      have hpk := (sp_kind g).2
      obtain ⟨q1, q2⟩ := sp_full (by decide) g
      have hs := sum_tl (sp_kind g).1
      rw [q1] at hs
      refine ⟨h2, ?_, ?_⟩
      · rw [nkf_top (by show 4 ≤ pk st.hd.text; omega), ndf_un]; exact h3
      · have := tlf_un_len st.hd.text a st.hd.pos
        show (tlF (.un st.hd.text a st.hd.pos)).length + 2 + 5 * sumS (d.x st.tl).2 ≤ _
        omega
    · next g =>
      rw [if_neg g]
      obtain ⟨h1, h2, h3⟩ := ha.ok st e hl he
      exact ⟨h1, Nat.le_trans (nkf_mono (by omega) e) h2, h3⟩
theorem rdx_right {k lv : Nat} (hk : k = 0 ∨ k = 3) {rd bh : St → RF} (hr : RdX rd (nkF (k + 1)) lv) (hb : RdX bh (fun e => 1 + nkF k e) lv) : RdX (rightS k rd bh) (nkF k) lv := by
  refine ⟨fun st => ?_, fun st e hl he => ?_⟩
  · unfold rightS
    split
    · exact (hb.ls _).trans ((ls_tl _).trans (hr.ls st))
    · exact hr.ls st
  · unfold rightS at he ⊢
    split at he
    · next g =>
      rw [if_pos g]
      obtain ⟨a, b, h1, h2, rfl⟩ := bin_some he
      obtain ⟨a1, a2, a3⟩ := hr.ok st a hl h1
      obtain ⟨b1, b2, b3⟩ := hb.ok _ b ((ls_tl _).lb ((hr.ls st).lb hl)) h2
      have hpk := (sp_kind g).2
      obtain ⟨q1, q2⟩ := sp_full (by omega) g
      have hs := sum_tl (sp_kind g).1
      rw [q1] at hs
      refine ⟨⟨a1, b1⟩, ?_, ?_⟩
      · rw [nkf_top (by show k ≤ pk (rd st).2.hd.text; omega), ndf_right hk hpk]
        exact Nat.max_le.2 ⟨a2, b2⟩
      · have := tlf_bin_len (rd st).2.hd.text a b a.pos
        show (tlF (.bin (rd st).2.hd.text a b a.pos)).length + 2 + 5 * sumS (bh (rd st).2.tl).2 ≤ _
        omega
    · next g =>
      rw [if_neg g]
      obtain ⟨h1, h2, h3⟩ := hr.ok st e hl he
      exact ⟨h1, Nat.le_trans (nkf_mono (by omega) e) h2, h3⟩
theorem rdx_leftF {k lv : Nat} (hk : k = 1 ∨ k = 2) {rd : St → RF} (hr : RdX rd (nkF (k + 1)) lv) (S : Nat) : ∀ (n : Nat) (r : RF), Lb r.2 → (∀ e, r.1 = some e → OkL e ∧ nkF k e ≤ lv ∧ (tlF e).length + 2 + 5 * sumS r.2 ≤ S) → ∀ e, (leftF k rd n r).1 = some e → OkL e ∧ nkF k e ≤ lv ∧ (tlF e).length + 2 + 5 * sumS (leftF k rd n r).2 ≤ S
  | 0, r, _, h0, e, h => h0 e h
  | n + 1, r, hl, h0, e, h => by
    unfold leftF at h ⊢
    split at h
    · next g =>
      rw [if_pos g]
      have ht := (ls_tl r.2).lb hl
      refine rdx_leftF hk hr S n (binO r.2.hd.text r.1 (rd r.2.tl).1, (rd r.2.tl).2) ((hr.ls _).lb ht) (fun e' h' => ?_) e h
      obtain ⟨a, b, hx, hy, rfl⟩ := bin_some h'
      obtain ⟨a1, a2, a3⟩ := h0 a hx
      obtain ⟨b1, b2, b3⟩ := hr.ok _ b ht hy
      have hpk := (sp_kind g).2
      obtain ⟨q1, q2⟩ := sp_full (by omega) g
      have hs := sum_tl (sp_kind g).1
      rw [q1] at hs
      refine ⟨⟨a1, b1⟩, ?_, ?_⟩
      · rw [nkf_top (by show k ≤ pk r.2.hd.text; omega), ndf_left hk hpk]
        exact Nat.max_le.2 ⟨a2, b2⟩
      · have := tlf_bin_len r.2.hd.text a b a.pos
        show (tlF (.bin r.2.hd.text a b a.pos)).length + 2 + 5 * sumS (rd r.2.tl).2 ≤ _
        omega
    · next g => rw [if_neg g]; exact h0 e h
theorem leftF_ls {k : Nat} {rd : St → RF} (hr : ∀ st, Ls (rd st).2 st) : ∀ (n : Nat) (r : RF), Ls (leftF k rd n r).2 r.2
  | 0, r => Ls.refl _
  | n + 1, r => by
    unfold leftF
    split
    · exact (leftF_ls hr n _).trans ((hr _).trans (ls_tl _))
    · exact Ls.refl _
theorem rdx_left {k lv : Nat} (hk : k = 1 ∨ k = 2) {rd : St → RF} (hr : RdX rd (nkF (k + 1)) lv) : RdX (leftS k rd) (nkF k) lv := by
  refine ⟨fun st => (leftF_ls hr.ls _ _).trans (hr.ls st), fun st e hl he => ?_⟩
  refine rdx_leftF hk hr _ _ _ ((hr.ls st).lb hl) (fun e' h' => ?_) e he
  obtain ⟨h1, h2, h3⟩ := hr.ok st e' hl h'
  exact ⟨h1, Nat.le_trans (nkf_mono (by omega) e') h2, h3⟩
structure RdAll (d : Dq) (lv : Nat) : Prop where
  f : RdX (formS d) (nkF 0) lv
  u : RdX (untlS d) (nkF 3) lv
  x : RdX (prefS d) (nkF 4) lv
theorem rdx_all {d : Dq} {lv : Nat} (h : RdD d lv) : RdAll d lv := by
  have x := rdx_pref h
  have u : RdX (untlS d) (nkF 3) lv := rdx_right (.inr rfl) x h.u
  have c : RdX (conjS d) (nkF 2) lv := rdx_left (.inr rfl) u
  have o : RdX (disjS d) (nkF 1) lv := rdx_left (.inl rfl) c
  exact ⟨rdx_right (.inl rfl) o h.f, u, x⟩
theorem rdx_up {F : St → RF} {k lv : Nat} (h : RdX F (nkF k) lv) : RdX F (fun e => 1 + nkF k e) (lv + 1) :=
  ⟨h.ls, fun st e hl he => by obtain ⟨h1, h2, h3⟩ := h.ok st e hl he; exact ⟨h1, by omega, h3⟩⟩
theorem rdx_dq : ∀ l, RdD (dq l) l
  | 0 => by
    have : ∀ m, RdX deepS m 0 := fun m => ⟨fun st => ls_fail 21 st, fun st e _ h => by cases h⟩
    exact ⟨this _, this _, this _⟩
  | l + 1 => by
    have a := rdx_all (rdx_dq l)
    exact ⟨rdx_up a.f, rdx_up a.u, rdx_up a.x⟩
/-- The labels of a text's tokens. -/
theorem lab_of {r : List UInt8} {n : Nat} (h0 : r ≠ []) (h : meas r = (3, n, 0)) : labL (bareL 3 (r.take n)) := by
  cases r with
  | nil => exact absurd rfl h0
  | cons c s =>
    simp only [meas] at h
    split at h
    · injection h with h _; cases h
    · split at h
      · injection h with h _; cases h
      · split at h
        · next hq =>
          injection h with _ h
          injection h with hn he
          by_cases hz : labN s = 0
          · rw [if_pos hz] at he; cases he
          · have hz' := hz
            unfold labN at hz hn
            split at hz
            · exact absurd rfl hz
            · next hc =>
              rw [if_neg hc] at hn
              subst hn
              have hcl := cnt_le labelB s
              have e : bareL 3 ((c :: s).take (cnt labelB s + 2)) = s.takeWhile labelB := by
                unfold bareL
                rw [if_pos rfl, ← take_cnt]
                have hl2 : cnt labelB s + 1 ≤ s.length := by
                  have := labN_le s
                  unfold labN at this
                  rw [if_neg hc] at this
                  omega
                have e1 : (c :: s).take (cnt labelB s + 2) = c :: s.take (cnt labelB s + 1) := rfl
                rw [e1, List.drop_succ_cons, List.drop_zero, List.length_cons, List.length_take, List.take_take]
                congr 1
                omega
              rw [e]
              have hlen : (s.takeWhile labelB).length = cnt labelB s := rfl
              exact ⟨by omega, by omega, all_while labelB _⟩
        · injection h with h _; cases h
theorem lb_good {l : List UInt8} : ∀ {ts : List Tok} {i : Nat}, Good l i ts → ∀ t ∈ ts, t.kind = 3 → labL t.text
  | [], _, h => h.elim
  | [t], _, h => fun t' ht' h3 => by
    rw [List.mem_singleton] at ht'
    subst ht'
    have := h.1
    omega
  | t :: u :: us, i, h => fun t' ht' h3 => by
    obtain ⟨_, h2, ⟨n, hm, ht, hg⟩, _⟩ := h
    rcases List.mem_cons.1 ht' with rfl | hr
    · rw [h3] at hm ht
      rw [ht]
      exact lab_of (drop_ne h2) hm
    · exact lb_good hg t' hr h3
theorem sumf_le {l : List UInt8} : ∀ {ts : List Tok} {i : Nat}, Good l i ts → sumF ts + i ≤ l.length
  | [], _, h => h.elim
  | [t], i, h => by
    obtain ⟨h1, h2, h3, h4⟩ := h
    have e : full t = [] := by unfold full; rw [if_neg (by omega)]; exact h2
    simp [sumF, e]
    omega
  | t :: v :: us, i, h => by
    obtain ⟨h1, h2, ⟨n, hm, ht, hg⟩, _⟩ := h
    obtain ⟨hf, hfl⟩ := good_full h2 hm ht
    have ih := sumf_le hg
    have e : sumF (t :: v :: us) = (full t).length + sumF (v :: us) := sumf_hd (us := t :: v :: us) (by simp)
    omega
theorem lb_toks {l : List UInt8} {ts : List Tok} (h : toks l = .ok ts) : Lb (.good ts) ∧ sumS (.good ts) ≤ l.length := by
  have g := good_toks h
  exact ⟨fun t ht h3 => lb_good g t ht h3, by have := sumf_le g; show sumF ts ≤ _; omega⟩
/-- What is read of a text. -/
theorem parse_deepF {D : Nat} {l : List UInt8} {f : Fo} (h : parseF D l = .ok f) : OkL f ∧ 1 + ndF f ≤ D ∧ (tlF f).length ≤ 5 * l.length := by
  unfold parseF at h
  cases ht : toks l with
  | error x => rw [ht] at h; cases h
  | ok ts =>
    rw [ht] at h
    simp only at h
    obtain ⟨hl, hs⟩ := lb_toks ht
    cases hr : (dq D).f (.good ts) with
    | mk o st =>
      rw [hr] at h
      cases st with
      | bad c p => cases h
      | good r =>
        simp only [endF] at h
        split at h
        · cases o with
          | none => cases h
          | some g =>
            injection h with h
            subst h
            obtain ⟨h1, h2, h3⟩ := (rdx_dq D).f.ok (.good ts) g hl (by rw [hr])
            rw [nkf_zero] at h2
            exact ⟨h1, h2, by omega⟩
        · cases h
end
section
def kdF (op : List UInt8) : Nat := if op = [85] ∨ op = [87] ∨ op = [82] ∨ op = [88] ∨ op = [70] ∨ op = [71] then 1 else 4
theorem kdf_or (op : List UInt8) : kdF op = 1 ∨ kdF op = 4 := by unfold kdF; split <;> simp
/-- The tokens of what is told. -/
def tkF : Fo → List Key
  | .leaf op nm _ => if op = opLab then [(3, nm)] else [(1, op)]
  | .un op a _ => (kdF op, op) :: tkP (decide (pk a.op < pk op)) (tkF a)
  | .bin op a b _ => tkP (decide (pk a.op < loP (pk op) 0)) (tkF a) ++ (kdF op, op) :: tkP (decide (pk b.op < loP (pk op) 1)) (tkF b)
theorem pkf_le (x : List UInt8) : pk x ≤ 5 := by
  unfold pk
  repeat' split
  all_goals omega
theorem sp_key {t : Tok} {op : List UInt8} (h1 : t.kind = kdF op) (h2 : t.text = op) (k : Nat) : sp k t = (pk op == k) := by
  unfold sp
  rw [h1, h2]
  rcases kdf_or op with h | h <;> simp [h]
/-- A token behind which nothing of rank k or tighter goes on. -/
def SpF (k : Nat) (t : Tok) : Prop := ∀ j, k ≤ j → j < 4 → sp j t = false
theorem SpF.up {j k : Nat} {t : Tok} (h : SpF j t) (hk : j ≤ k) : SpF k t := fun i hi h4 => h i (by omega) h4
theorem spf_of {k r : Nat} {t : Tok} {op : List UInt8} (h1 : t.kind = kdF op) (h2 : t.text = op) (hr : pk op = r) (h : r < k ∨ 4 ≤ r) : SpF k t := fun j hj h4 => by
  rw [sp_key h1 h2, hr]
  simp
  omega
theorem spf_par {t : Tok} (h1 : t.kind = 4) (h2 : t.text = [41]) (k : Nat) : SpF k t := spf_of (op := [41]) (by rw [h1]; rfl) h2 (show pk [41] = 5 by decide) (.inr (by omega))
/-- The reader of a rank. -/
def rdF (d : Dq) : Nat → St → RF
  | 0 => formS d
  | 1 => disjS d
  | 2 => conjS d
  | 3 => untlS d
  | 4 => prefS d
  | _ => atomS d
def HdF (k j : Nat) (t : Tok) : Prop := k ≤ 4 → 4 < j → sp 4 t = false
theorem downF1 {d : Dq} {k : Nat} (hk : k < 5) {us T : List Tok} {e : Fo} (h : rdF d (k + 1) (.good us) = (some e, .good T)) (hs : SpF k (hd T)) (hh : HdF k (k + 1) (hd us)) : rdF d k (.good us) = (some e, .good T) := by
  have : k = 0 ∨ k = 1 ∨ k = 2 ∨ k = 3 ∨ k = 4 := by omega
  rcases this with rfl | rfl | rfl | rfl | rfl
  · show rightS 0 (disjS d) d.f (.good us) = _
    rw [right_good 0 (disjS d) d.f (show disjS d (.good us) = _ from h), if_neg (by rw [hs 0 (by omega) (by omega)]; simp)]
  · show leftS 1 (conjS d) (.good us) = _
    have h' : conjS d (.good us) = _ := h
    unfold leftS
    rw [h']
    exact left_stop (hs 1 (by omega) (by omega))
  · show leftS 2 (untlS d) (.good us) = _
    have h' : untlS d (.good us) = _ := h
    unfold leftS
    rw [h']
    exact left_stop (hs 2 (by omega) (by omega))
  · show rightS 3 (prefS d) d.u (.good us) = _
    rw [right_good 3 (prefS d) d.u (show prefS d (.good us) = _ from h), if_neg (by rw [hs 3 (by omega) (by omega)]; simp)]
  · show prefS d (.good us) = _
    rw [pref_good, if_neg (by rw [hh (by omega) (by omega)]; simp)]
    exact h
theorem downF {d : Dq} {us T : List Tok} {e : Fo} : ∀ (n k : Nat), k + n ≤ 5 → rdF d (k + n) (.good us) = (some e, .good T) → SpF k (hd T) → HdF k (k + n) (hd us) → rdF d k (.good us) = (some e, .good T)
  | 0, _, _, h, _, _ => h
  | n + 1, k, hk, h, hs, hh => by
    have h' : rdF d (k + 1 + n) (.good us) = (some e, .good T) := by rw [show k + 1 + n = k + (n + 1) by omega]; exact h
    have := downF n (k + 1) (by omega) h' (hs.up (by omega)) (fun a b => hh (by omega) (by omega))
    exact downF1 (by omega) this hs (fun a b => hh a (by omega))
theorem downToF {d : Dq} {us T : List Tok} {e : Fo} {j k : Nat} (hk : k ≤ j) (hj : j ≤ 5) (h : rdF d j (.good us) = (some e, .good T)) (hs : SpF k (hd T)) (hh : HdF k j (hd us)) : rdF d k (.good us) = (some e, .good T) := by
  obtain ⟨n, rfl⟩ : ∃ n, j = k + n := ⟨j - k, by omega⟩
  exact downF n k hj h hs hh
/-- What the first token is not. -/
def HdKF (j : Nat) (x : Key) : Prop := 4 < j → x.1 = 3 ∨ pk x.2 ≠ 4
theorem hdf_of {j : Nat} {x : Key} (h : HdKF j x) (k : Nat) {t : Tok} (hk : t.kind = x.1) (ht : t.text = x.2) : HdF k j t := fun _ h4 => by
  unfold sp
  rcases h h4 with h1 | h1
  · rw [hk, h1]; rfl
  · rw [ht]; simp [h1]
theorem hd_tkF : ∀ e, OkF e → ∃ x l, tkF e = x :: l ∧ HdKF (pk e.op) x
  | .leaf op nm _, h => by
    by_cases ho : op = opLab
    · exact ⟨(3, nm), [], by simp [tkF, ho], fun _ => .inl rfl⟩
    · refine ⟨(1, op), [], by simp [tkF, ho], fun _ => .inr ?_⟩
      rcases h with ⟨h, _⟩ | ⟨rfl | rfl, _⟩
      · exact absurd h ho
      · decide
      · decide
  | .un op a _, h => ⟨_, _, rfl, fun h4 => by have h5 : pk op = 4 := h.1; have h6 : 4 < pk op := h4; omega⟩
  | .bin op a b _, h => by
    obtain ⟨x, r, h1, _⟩ := hd_tkF a h.2.1
    have hz : ∀ x, HdKF (pk (Fo.bin op a b 0).op) x := fun x h4 => by have h5 : pk op < 4 := h.1; have h6 : 4 < pk op := h4; omega
    cases hb : decide (pk a.op < loP (pk op) 0) with
    | true => exact ⟨_, _, by rw [tkF, hb]; rfl, hz _⟩
    | false => exact ⟨_, _, by rw [tkF, hb, h1]; rfl, hz _⟩
def BkF (e : Fo) : Prop := ∀ (k lv : Nat) (us T : List Tok), k ≤ 5 → nkF k e ≤ lv → KT us T (tkP (decide (pk e.op < k)) (tkF e)) → SpF k (hd T) → ∃ e', rdF (dq lv) k (.good us) = (some e', .good T) ∧ e'.bare = e.bare
def CoreF (e : Fo) : Prop := ∀ (lv : Nat) (us T : List Tok), ndF e ≤ lv → KT us T (tkF e) → SpF (pk e.op) (hd T) → ∃ e', rdF (dq lv) (pk e.op) (.good us) = (some e', .good T) ∧ e'.bare = e.bare
def ChF (e : Fo) : Prop := ∀ (k lv : Nat) (us T : List Tok), (k = 1 ∨ k = 2) → nkF k e ≤ lv → KT us T (tkP (decide (pk e.op < k)) (tkF e)) → SpF (k + 1) (hd T) → ∃ e', leftS k (rdF (dq lv) (k + 1)) (.good us) = leftF k (rdF (dq lv) (k + 1)) T.length (some e', .good T) ∧ e'.bare = e.bare
theorem dq_succ (l : Nat) : dq (l + 1) = ⟨formS (dq l), untlS (dq l), prefS (dq l)⟩ := by rw [dq]
theorem isT_key {t : Tok} {x : List UInt8} (h1 : t.kind = 1 ∨ t.kind = 4) (h2 : t.text = x) : isT t x = true := by
  unfold isT
  rw [h2]
  rcases h1 with h | h <;> simp [h]
theorem isT_no {t : Tok} {x : List UInt8} (h : t.text ≠ x) : isT t x = false := by unfold isT; simp [h]
theorem bkf_of {e : Fo} (hO : OkF e) (h : CoreF e) : BkF e := by
  intro k lv us T hk hl hkt hs
  obtain ⟨x, l, htk, hx⟩ := hd_tkF e hO
  by_cases hp : pk e.op < k
  · rw [decide_eq_true hp] at hkt
    simp only [tkP, if_true] at hkt
    have hl' : 1 + ndF e ≤ lv := by unfold nkF at hl; rw [if_pos hp] at hl; exact hl
    obtain ⟨l', rfl⟩ : ∃ l', lv = l' + 1 := ⟨lv - 1, by omega⟩
    obtain ⟨h1, h2, h3, h4⟩ := hkt.cons
    obtain ⟨M, h5, h6⟩ := h3.app
    obtain ⟨h7, h8, h9, h10⟩ := h6.cons
    have hM : M.tail = T := h9.nil
    obtain ⟨e1, h11, h12⟩ := h l' us.tail M (by omega) h5 (spf_par h7 h8 _)
    have h5' := h5
    rw [htk] at h5'
    obtain ⟨h13, h14, _, _⟩ := h5'.cons
    have h15 := downToF (k := 0) (Nat.zero_le _) (pkf_le _) h11 (spf_par h7 h8 _) (hdf_of hx 0 h13 h14)
    have h2' : (hd us).text = [40] := h2
    have h16 : atomS (dq (l' + 1)) (.good us) = (some (e1.move (hd us).pos), .good T) := by
      rw [atom_good, if_neg (by rw [h1]; simp), if_neg (by rw [isT_no (by rw [h2']; decide)]; simp), if_neg (by rw [isT_no (by rw [h2']; decide)]; simp), if_pos (isT_key (.inr h1) h2')]
      unfold enclS
      have h15' : (dq (l' + 1)).f (.good us.tail) = (some e1, .good M) := by rw [dq_succ]; exact h15
      rw [h15']
      show (mvO _ (some e1), (St.good M).want [41]) = _
      rw [want_go (isT_key (.inr h7) h8), hM]
      rfl
    refine ⟨e1.move (hd us).pos, downToF (j := 5) hk (by omega) h16 hs (fun _ _ => ?_), by rw [fbare_move, h12]⟩
    unfold sp; rw [h2']; simp [show pk [40] = 5 by decide]
  · rw [decide_eq_false hp] at hkt
    have hl' : ndF e ≤ lv := by unfold nkF at hl; rw [if_neg hp] at hl; exact hl
    have hkt' : KT us T (tkF e) := by simpa [tkP] using hkt
    obtain ⟨e1, h11, h12⟩ := h lv us T hl' hkt' (hs.up (by omega))
    have h5' := hkt'
    rw [htk] at h5'
    obtain ⟨h13, h14, _, _⟩ := h5'.cons
    exact ⟨e1, downToF (by omega) (pkf_le _) h11 hs (hdf_of hx k h13 h14), h12⟩
theorem chf_of {e : Fo} (h : BkF e) {k lv : Nat} {us T : List Tok} (hk : k = 1 ∨ k = 2) (hne : pk e.op ≠ k) (hl : nkF k e ≤ lv) (hkt : KT us T (tkP (decide (pk e.op < k)) (tkF e))) (hs : SpF (k + 1) (hd T)) : ∃ e', leftS k (rdF (dq lv) (k + 1)) (.good us) = leftF k (rdF (dq lv) (k + 1)) T.length (some e', .good T) ∧ e'.bare = e.bare := by
  have e1 : decide (pk e.op < k) = decide (pk e.op < k + 1) := by
    by_cases h : pk e.op < k
    · rw [decide_eq_true h, decide_eq_true (by omega)]
    · rw [decide_eq_false h, decide_eq_false (by omega)]
  have e2 : nkF k e = nkF (k + 1) e := by
    unfold nkF
    by_cases h : pk e.op < k
    · rw [if_pos h, if_pos (by omega)]
    · rw [if_neg h, if_neg (by omega)]
  rw [e1] at hkt
  rw [e2] at hl
  obtain ⟨e', h1, h2⟩ := h (k + 1) lv us T (by omega) hl hkt hs
  exact ⟨e', by unfold leftS; rw [h1]; rfl, h2⟩
theorem coreF_leaf {op nm : List UInt8} {p : Nat} (hO : OkF (.leaf op nm p)) : CoreF (.leaf op nm p) := by
  intro lv us T _ hkt _
  rcases hO with ⟨rfl, _⟩ | ⟨ho, rfl⟩
  · have h5 : pk opLab = 5 := by decide
    rw [Fo.op, h5]
    have hkt' : KT us T [(3, nm)] := by simpa [tkF] using hkt
    obtain ⟨h1, h2, h3, _⟩ := hkt'.cons
    refine ⟨.leaf opLab (hd us).text (hd us).pos, ?_, by rw [h2]; rfl⟩
    show atomS (dq lv) (.good us) = _
    rw [atom_good, if_pos h1, h3.nil]
  · have h5 : pk op = 5 := by rcases ho with rfl | rfl <;> decide
    have n1 : ¬ op = opLab := by rcases ho with rfl | rfl <;> decide
    rw [Fo.op, h5]
    have hkt' : KT us T [(1, op)] := by simpa [tkF, n1] using hkt
    obtain ⟨h1, h2, h3, _⟩ := hkt'.cons
    have h2' : (hd us).text = op := h2
    refine ⟨.leaf op [] (hd us).pos, ?_, rfl⟩
    show atomS (dq lv) (.good us) = _
    rw [atom_good, if_neg (by rw [h1]; simp)]
    rcases ho with rfl | rfl
    · rw [if_pos (isT_key (.inl h1) h2'), h3.nil]
    · rw [if_neg (by rw [isT_no (by rw [h2']; decide)]; simp), if_pos (isT_key (.inl h1) h2'), h3.nil]
theorem coreF_un {op : List UInt8} {a : Fo} {p : Nat} (hr : pk op = 4) (ha : BkF a) : CoreF (.un op a p) := by
  intro lv us T hl hkt hs
  rw [ndf_un] at hl
  rw [Fo.op, hr] at hs ⊢
  rw [tkF, hr] at hkt
  obtain ⟨h1, h2, h3, _⟩ := hkt.cons
  obtain ⟨l, rfl⟩ : ∃ l, lv = l + 1 := ⟨lv - 1, by omega⟩
  obtain ⟨a', h4, h5⟩ := ha 4 l us.tail T (by omega) (by omega) h3 hs
  have h2' : (hd us).text = op := h2
  refine ⟨.un op a' (hd us).pos, ?_, by simp [Fo.bare, h5]⟩
  show prefS (dq (l + 1)) (.good us) = _
  rw [pref_good, if_pos (by rw [sp_key h1 h2', hr]; rfl)]
  have : (dq (l + 1)).x (.good us.tail) = (some a', .good T) := by rw [dq_succ]; exact h4
  rw [this, h2']
  rfl
theorem coreF_right {k : Nat} (hk : k = 0 ∨ k = 3) {op : List UInt8} {a b : Fo} {p : Nat} (hr : pk op = k) (ha : BkF a) (hb : BkF b) : CoreF (.bin op a b p) := by
  intro lv us T hl hkt hs
  rw [ndf_right hk hr] at hl
  rw [Fo.op, hr] at hs ⊢
  rw [tkF, hr, show loP k 0 = k + 1 by rcases hk with rfl | rfl <;> rfl, show loP k 1 = k by rcases hk with rfl | rfl <;> rfl] at hkt
  obtain ⟨M, h1, h2⟩ := hkt.app
  obtain ⟨h3, h4, h5, _⟩ := h2.cons
  have h4' : (hd M).text = op := h4
  obtain ⟨a', h6, h7⟩ := ha (k + 1) lv us M (by omega) (by omega) h1 (spf_of h3 h4' hr (by omega))
  obtain ⟨l, rfl⟩ : ∃ l, lv = l + 1 := ⟨lv - 1, by omega⟩
  obtain ⟨b', h8, h9⟩ := hb k l M.tail T (by omega) (by omega) h5 hs
  refine ⟨.bin op a' b' a'.pos, ?_, by simp [Fo.bare, h7, h9]⟩
  have hsp : sp k (hd M) = true := by rw [sp_key h3 h4', hr]; simp
  rcases hk with rfl | rfl
  · show rightS 0 (disjS (dq (l + 1))) (dq (l + 1)).f (.good us) = _
    rw [right_good 0 _ (dq (l + 1)).f (show disjS (dq (l + 1)) (.good us) = _ from h6), if_pos hsp]
    have : (dq (l + 1)).f (.good M.tail) = (some b', .good T) := by rw [dq_succ]; exact h8
    rw [this, h4']
    rfl
  · show rightS 3 (prefS (dq (l + 1))) (dq (l + 1)).u (.good us) = _
    rw [right_good 3 _ (dq (l + 1)).u (show prefS (dq (l + 1)) (.good us) = _ from h6), if_pos hsp]
    have : (dq (l + 1)).u (.good M.tail) = (some b', .good T) := by rw [dq_succ]; exact h8
    rw [this, h4']
    rfl
theorem rokF {k : Nat} (hk : k = 2 ∨ k = 3) (lv : Nat) : Rok (rdF (dq lv) k) := by
  have r := rok_all (rok_dq lv)
  rcases hk with rfl | rfl
  · exact r.a
  · exact r.u
theorem chF_bin {op : List UInt8} {a b : Fo} {p k : Nat} (hk : k = 1 ∨ k = 2) (hr : pk op = k) (ha : ChF a) (hb : BkF b) {lv : Nat} {us T : List Tok} (hl : ndF (.bin op a b p) ≤ lv) (hkt : KT us T (tkF (.bin op a b p))) (hs : SpF (k + 1) (hd T)) :
    ∃ e', leftS k (rdF (dq lv) (k + 1)) (.good us) = leftF k (rdF (dq lv) (k + 1)) T.length (some e', .good T) ∧ e'.bare = (Fo.bin op a b p).bare := by
  rw [ndf_left hk hr] at hl
  rw [tkF, hr, show loP k 0 = k by rcases hk with rfl | rfl <;> rfl, show loP k 1 = k + 1 by rcases hk with rfl | rfl <;> rfl] at hkt
  obtain ⟨M, h1, h2⟩ := hkt.app
  obtain ⟨h3, h4, h5, _⟩ := h2.cons
  have h4' : (hd M).text = op := h4
  obtain ⟨a', h7, h8⟩ := ha k lv us M hk (by omega) h1 (spf_of h3 h4' hr (by omega))
  obtain ⟨b', h9, h10⟩ := hb (k + 1) lv M.tail T (by omega) (by omega) h5 hs
  refine ⟨.bin op a' b' a'.pos, ?_, by simp [Fo.bare, h8, h10]⟩
  have hsp : sp k (St.good M).hd = true := by show sp k (hd M) = true; rw [sp_key h3 h4', hr]; simp
  obtain ⟨g1, _⟩ := left_go (r := (some a', .good M)) (rokF (k := k + 1) (by omega) lv) hsp
  rw [h7]
  have g1' : leftF k (rdF (dq lv) (k + 1)) M.length (some a', .good M) = leftF k (rdF (dq lv) (k + 1)) (rdF (dq lv) (k + 1) (.good M.tail)).2.len (binO (hd M).text (some a') (rdF (dq lv) (k + 1) (.good M.tail)).1, (rdF (dq lv) (k + 1) (.good M.tail)).2) := g1
  rw [g1', h9, h4']
  rfl
theorem coreF_left {op : List UInt8} {a b : Fo} {p k : Nat} (hk : k = 1 ∨ k = 2) (hr : pk op = k) (ha : ChF a) (hb : BkF b) : CoreF (.bin op a b p) := by
  intro lv us T hl hkt hs
  rw [Fo.op, hr] at hs ⊢
  obtain ⟨e', h1, h2⟩ := chF_bin hk hr ha hb hl hkt (hs.up (by omega))
  rw [left_stop (show sp k (St.good T).hd = false from hs k (Nat.le_refl _) (by omega))] at h1
  refine ⟨e', ?_, h2⟩
  rcases hk with rfl | rfl <;> exact h1
theorem backF_all : ∀ e, OkF e → BkF e ∧ ChF e
  | .leaf op nm p, h => by
    have b := bkf_of h (coreF_leaf h)
    have h5 : pk op = 5 := by
      rcases h with ⟨rfl, _⟩ | ⟨rfl | rfl, _⟩ <;> decide
    exact ⟨b, fun k lv us T hk => chf_of b hk (by rw [Fo.op, h5]; omega)⟩
  | .un op a p, h => by
    obtain ⟨ha, _⟩ := backF_all a h.2
    have hr : pk op = 4 := h.1
    have b := bkf_of h (coreF_un hr ha)
    exact ⟨b, fun k lv us T hk => chf_of b hk (by rw [Fo.op, hr]; omega)⟩
  | .bin op a b p, h => by
    obtain ⟨ha, ca⟩ := backF_all a h.2.1
    obtain ⟨hb, _⟩ := backF_all b h.2.2
    have hlt : pk op < 4 := h.1
    by_cases hk : pk op = 1 ∨ pk op = 2
    · have B := bkf_of h (coreF_left hk rfl ca hb)
      refine ⟨B, fun k lv us T hk' hl hkt hs => ?_⟩
      by_cases he : pk op = k
      · have e0 : decide (pk (Fo.bin op a b p).op < k) = false := decide_eq_false (by rw [Fo.op, he]; omega)
        rw [e0] at hkt
        rw [nkf_top (by rw [Fo.op, he]; omega)] at hl
        exact chF_bin hk' he ca hb hl (by simpa [tkP] using hkt) hs
      · exact chf_of B hk' he hl hkt hs
    · have hr : pk op = 0 ∨ pk op = 3 := by omega
      have B := bkf_of h (coreF_right hr rfl ha hb)
      exact ⟨B, fun k lv us T hk' => chf_of B hk' (by rw [Fo.op]; omega)⟩
/-- What is told is read as the same, with the levels that it needs, ahead of what stops it. -/
theorem told_readF {e : Fo} (h : OkF e) {D : Nat} (hD : 1 + ndF e ≤ D) {us T : List Tok} (hs : SpF 0 (hd T)) (hk : us.map key = tkF e) : ∃ e', (dq D).f (.good (us ++ T)) = (some e', .good T) ∧ e'.bare = e.bare := by
  obtain ⟨l, rfl⟩ : ∃ l, D = l + 1 := ⟨D - 1, by omega⟩
  obtain ⟨e', h1, h2⟩ := (backF_all e h).1 0 l (us ++ T) T (by omega) (by rw [nkf_zero]; omega) ⟨us, rfl, by simpa [tkP] using hk⟩ hs
  exact ⟨e', by rw [dq_succ]; exact h1, h2⟩
/-- Places play no part in what is told. -/
theorem fop_bare : ∀ e : Fo, e.bare.op = e.op
  | .leaf _ _ _ => rfl
  | .un _ _ _ => rfl
  | .bin _ _ _ _ => rfl
theorem tlf_bare : ∀ e : Fo, tlF e.bare = tlF e
  | .leaf _ _ _ => rfl
  | .un op a _ => by simp only [Fo.bare, tlF, fop_bare, tlf_bare a]
  | .bin op a b _ => by simp only [Fo.bare, tlF, fop_bare, tlf_bare a, tlf_bare b]
theorem tlf_same {a b : Fo} (h : a.bare = b.bare) : tlF a = tlF b := by rw [← tlf_bare a, h, tlf_bare]
end
section
theorem sc_label {nm : List UInt8} (h : labL nm) : Sc (34 :: (nm ++ [34])) [(3, nm)] := by
  intro t p _
  obtain ⟨h1, h2, h3⟩ := h
  have hw : (nm ++ 34 :: t).takeWhile labelB = nm := while_all (x := 34) (by decide) t h3
  have hc : cnt labelB (nm ++ 34 :: t) = nm.length := by unfold cnt; rw [hw]
  have hl : labN (nm ++ 34 :: t) = nm.length + 2 := by
    unfold labN
    rw [hc, if_neg]
    rintro (h | h | h)
    · omega
    · omega
    · rw [List.getElem?_append_right (Nat.le_refl _), Nat.sub_self] at h
      exact h (by simp)
  have hm : meas (34 :: (nm ++ 34 :: t)) = (3, nm.length + 2, 0) := by
    rw [meas, if_neg (by decide), if_neg (by decide), if_pos (by decide), hl, if_neg (by omega)]
  have e0 : 34 :: (nm ++ [34]) ++ t = 34 :: (nm ++ 34 :: t) := by simp
  have hb : blanks false (34 :: (nm ++ 34 :: t)) = 0 := by
    rw [blanks, if_neg (by decide), if_neg (by rintro ⟨h, _⟩; revert h; decide)]
  refine ⟨[⟨3, nm, p⟩], rfl, ?_⟩
  rw [e0, scanR_step, hb]
  simp only [List.drop_zero, Nat.add_zero]
  rw [if_neg (by simp), hm, if_pos rfl]
  simp only
  have e1 : (34 :: (nm ++ 34 :: t)).take (nm.length + 2) = 34 :: (nm ++ [34]) := by
    rw [List.take_succ_cons, List.take_append, List.take_of_length_le (by omega : nm.length ≤ nm.length + 1)]
    simp
  have e2 : (34 :: (nm ++ 34 :: t)).drop (nm.length + 2) = t := by
    rw [List.drop_succ_cons, List.drop_append, List.drop_eq_nil_of_le (by omega : nm.length ≤ nm.length + 1)]
    simp
  have e3 : bareL 3 (34 :: (nm ++ [34])) = nm := by
    unfold bareL
    rw [if_pos rfl]
    simp
  rw [e1, e2, e3]
  congr 2
  simp
/-- A sign that is a name. -/
def wdL (x : List UInt8) : Prop := x = [85] ∨ x = [87] ∨ x = [82] ∨ x = [88] ∨ x = [70] ∨ x = [71]
theorem wd_name {x : List UInt8} (h : wdL x) : nameL x := by
  rcases h with rfl | rfl | rfl | rfl | rfl | rfl <;> exact ⟨⟨_, [], rfl, by decide⟩, by decide⟩
theorem sc_joinW {x : List UInt8} (hx : wdL x) {l m : List UInt8} {ks ms : List Key} (hl : Sc l ks) (hm : Sc m ms) : Sc (l ++ (32 :: x ++ 32 :: m)) (ks ++ (1, x) :: ms) := by
  intro t p ht
  obtain ⟨i1, h1, h2⟩ := hl (32 :: (x ++ 32 :: (m ++ t))) p (.inr ⟨32, _, rfl, .inl rfl⟩)
  obtain ⟨iw, hw1, hw2⟩ := sc_name (wd_name hx) (32 :: (m ++ t)) (p + l.length + 1) (.inr ⟨32, _, rfl, .inl rfl⟩)
  obtain ⟨i2, h3, h4⟩ := hm t (p + l.length + 1 + x.length + 1) ht
  refine ⟨i1 ++ iw ++ i2, by simp [h1, hw1, h3], ?_⟩
  have e : l ++ (32 :: x ++ 32 :: m) ++ t = l ++ 32 :: (x ++ 32 :: (m ++ t)) := by simp
  rw [e, h2, scan_blank, hw2, scan_blank, h4, onto_onto, onto_onto]
  congr 2
  simp
  omega
theorem sc_preW {x : List UInt8} (hx : wdL x) {l : List UInt8} {ks : List Key} (h : Sc l ks) : Sc (x ++ ([32] ++ l)) ((1, x) :: ks) := by
  intro t p ht
  obtain ⟨iw, hw1, hw2⟩ := sc_name (wd_name hx) (32 :: (l ++ t)) p (.inr ⟨32, _, rfl, .inl rfl⟩)
  obtain ⟨i2, h3, h4⟩ := h t (p + x.length + 1) ht
  refine ⟨iw ++ i2, by simp [hw1, h3], ?_⟩
  have e : x ++ ([32] ++ l) ++ t = x ++ 32 :: (l ++ t) := by simp
  rw [e, hw2, scan_blank, h4, onto_onto]
  congr 2
  simp
  omega
theorem fst_tlF : ∀ e, OkF e → FstOk (tlF e)
  | .leaf op nm _, h => by
    rcases h with ⟨rfl, _⟩ | ⟨ho, _⟩
    · exact ⟨34, nm ++ [34], by simp [tlF], by decide, by decide⟩
    · rcases ho with rfl | rfl
      · exact ⟨116, [114, 117, 101], by rw [tlF, if_neg (by decide)]; rfl, by decide, by decide⟩
      · exact ⟨102, [97, 108, 115, 101], by rw [tlF, if_neg (by decide)]; rfl, by decide, by decide⟩
  | .un op a _, h => by
    have h4 : pk op = 4 := h.1
    have : op = [33] ∨ op = [88] ∨ op = [70] ∨ op = [71] := by
      unfold pk at h4
      repeat' split at h4
      all_goals first | omega | assumption
    rcases this with rfl | rfl | rfl | rfl <;> exact ⟨_, _, rfl, by decide, by decide⟩
  | .bin op a b _, h => fst_par (fst_tlF a h.2.1) _ _
theorem pkf_four {op : List UInt8} (h : pk op = 4) : op = [33] ∨ (wdL op ∧ op ≠ [33]) := by
  unfold pk at h
  repeat' split at h
  all_goals first | omega | skip
  next h4 =>
    rcases h4 with rfl | rfl | rfl | rfl
    · exact .inl rfl
    · exact .inr ⟨by unfold wdL; simp, by simp⟩
    · exact .inr ⟨by unfold wdL; simp, by simp⟩
    · exact .inr ⟨by unfold wdL; simp, by simp⟩
theorem pkf_bin {op : List UInt8} (h : pk op < 4) : wdL op ∨ ((op = [61, 62] ∨ op = [124] ∨ op = [38]) ∧ ¬ wdL op) := by
  by_cases h1 : op = [61, 62]
  · subst h1; exact .inr ⟨.inl rfl, by unfold wdL; simp⟩
  · by_cases h2 : op = [124]
    · subst h2; exact .inr ⟨.inr (.inl rfl), by unfold wdL; simp⟩
    · by_cases h3 : op = [38]
      · subst h3; exact .inr ⟨.inr (.inr rfl), by unfold wdL; simp⟩
      · by_cases h4 : op = [85] ∨ op = [87] ∨ op = [82]
        · exact .inl (by unfold wdL; rcases h4 with h | h | h <;> simp [h])
        · exfalso
          unfold pk at h
          rw [if_neg h1, if_neg h2, if_neg h3, if_neg h4] at h
          split at h <;> omega
theorem kd_wd {op : List UInt8} (h : wdL op) : kdF op = 1 := by unfold kdF; exact if_pos h
theorem kd_no {op : List UInt8} (h : ¬ wdL op) : kdF op = 4 := by unfold kdF; exact if_neg h
theorem sc_tlF : ∀ e, OkF e → OkL e → Sc (tlF e) (tkF e)
  | .leaf op nm p, h, hl => by
    rcases h with ⟨rfl, _⟩ | ⟨ho, rfl⟩
    · have e1 : tlF (.leaf opLab nm p) = 34 :: (nm ++ [34]) := by simp [tlF]
      have e2 : tkF (.leaf opLab nm p) = [(3, nm)] := by simp [tkF]
      rw [e1, e2]
      exact sc_label (hl rfl)
    · have n1 : ¬ op = opLab := by rcases ho with rfl | rfl <;> decide
      have e1 : tlF (.leaf op [] p) = op := by simp [tlF, n1]
      have e2 : tkF (.leaf op [] p) = [(1, op)] := by simp [tkF, n1]
      rw [e1, e2]
      refine sc_name ?_
      rcases ho with rfl | rfl
      · exact ⟨⟨116, [114, 117, 101], rfl, by decide⟩, by decide⟩
      · exact ⟨⟨102, [97, 108, 115, 101], rfl, by decide⟩, by decide⟩
  | .un op a p, h, hl => by
    have ha := sc_par (sc_tlF a h.2 hl) (decide (pk a.op < pk op))
    have hf : FstOk (parX (decide (pk a.op < pk op)) (tlF a)) := by simpa using fst_par (fst_tlF a h.2) (decide (pk a.op < pk op)) []
    rcases pkf_four h.1 with rfl | ⟨hw, hne⟩
    · have e1 : tlF (.un [33] a p) = 33 :: parX (decide (pk a.op < pk [33])) (tlF a) := by rw [tlF, if_pos rfl]; rfl
      have e2 : tkF (.un [33] a p) = (4, [33]) :: tkP (decide (pk a.op < pk [33])) (tkF a) := rfl
      rw [e1, e2]
      exact sc_pre (.inr rfl) ha hf
    · rw [tlF, if_neg hne, tkF, kd_wd hw]
      exact sc_preW hw ha
  | .bin op a b p, h, hl => by
    have ha := sc_par (sc_tlF a h.2.1 hl.1) (decide (pk a.op < loP (pk op) 0))
    have hb := sc_par (sc_tlF b h.2.2 hl.2) (decide (pk b.op < loP (pk op) 1))
    rw [tlF, tkF]
    rcases pkf_bin h.1 with hw | ⟨ho, hn⟩
    · rw [kd_wd hw]
      exact sc_joinW hw ha hb
    · rw [kd_no hn]
      exact sc_join (by rcases ho with rfl | rfl | rfl <;> decide) ha hb
theorem scan_nil (q : Nat) : scanR [] q = .ok [⟨0, [], q⟩] := by rw [scanR_step]; simp [blanks]
/-- There and back. -/
theorem parse_tlF {e : Fo} (h : OkF e) (hl : OkL e) {D : Nat} (hD : 1 + ndF e ≤ D) : ∃ e', parseF D (tlF e) = .ok e' ∧ e'.bare = e.bare := by
  obtain ⟨ini, h1, h2⟩ := sc_tlF e h hl [] 0 (.inl rfl)
  rw [List.append_nil, scan_nil] at h2
  have ht : toks (tlF e) = .ok (ini ++ [⟨0, [], 0 + (tlF e).length⟩]) := by rw [toks_R, h2]; rfl
  obtain ⟨e', h3, h4⟩ := told_readF h hD (us := ini) (T := [⟨0, [], 0 + (tlF e).length⟩]) (fun j _ _ => sp_end rfl j) h1
  exact ⟨e', by rw [parseF, ht]; show endF _ = _; rw [h3]; rfl, h4⟩
end
section
def wMin : List UInt8 := [80, 109, 105, 110]
def wMax : List UInt8 := [80, 109, 97, 120]
/-- A question that was read. -/
structure Qr where
  kind : List UInt8
  f : Option Fo
  pos : Nat
def St.extr (st : St) : List UInt8 × St := if isT st.hd wMin then (wMin, st.tl) else if isT st.hd wMax then (wMax, st.tl) else ([], st.fail 20)
def St.digs (x : List UInt8) (st : St) : St := if st.hd.kind = 2 ∧ st.hd.text = x then st.tl else st.fail 20
def St.bnd (st : St) : List UInt8 × St := if isT st.hd [61] then ([61, 49], st.tl.digs [49]) else if isT st.hd [62] then ([62, 48], st.tl.digs [48]) else ([], st.fail 20)
def St.body (l : Nat) (st : St) : RF := formS (dq l) (st.extr.2.bnd.2.want [91])
def St.qst (l : Nat) (st : St) : Qr × St := (⟨st.extr.1 ++ st.extr.2.bnd.1, (st.body l).1, st.hd.pos⟩, ((st.body l).2.want [93]).want [59])
def qMore (t : Tok) : Bool := !decide (t.kind = 0)
def St.qsts (l : Nat) (st : St) : List Qr × St := st.list qMore (fun s => s.qst l)
inductive QP where
  | ok (l : List Qr)
  | er (c p : Nat)
def endQ : List Qr × St → QP
  | (_, .bad c p) => .er c p
  | (l, .good _) => .ok l
def parseQs (D : Nat) (l : List UInt8) : QP :=
  match toks l with
  | .error x => .er x.1 x.2
  | .ok ts => endQ (St.qsts (D - 1) (.good ts))

theorem qmore_kind {t : Tok} (h : qMore t = true) : t.kind ≠ 0 := by simpa [qMore] using h
theorem qmore_no {t : Tok} (h : qMore t = false) : t.kind = 0 := by simpa [qMore] using h
theorem digs_le (x : List UInt8) (st : St) : Le (st.digs x) st := by
  unfold St.digs
  split
  · next h => exact (tl_le (by omega)).1
  · exact fail_le st
theorem extr_le (st : St) : Le st.extr.2 st := by
  unfold St.extr
  split
  · next h => exact (tl_le (isT_kind h)).1
  · split
    · next h => exact (tl_le (isT_kind h)).1
    · exact fail_le st
theorem extr_lt {st : St} (h : st.hd.kind ≠ 0) : st.extr.2.len < st.len := by
  unfold St.extr
  split
  · next h => exact (tl_le (isT_kind h)).2
  · split
    · next h => exact (tl_le (isT_kind h)).2
    · obtain ⟨us, rfl, hu⟩ := hd_bad h
      show 0 < us.length
      exact List.length_pos_iff.2 hu
theorem bnd_le (st : St) : Le st.bnd.2 st := by
  unfold St.bnd
  split
  · next h => exact (digs_le _ _).trans (tl_le (isT_kind h)).1
  · split
    · next h => exact (digs_le _ _).trans (tl_le (isT_kind h)).1
    · exact fail_le st
theorem body_two (l : Nat) (st : St) : st.body l = formS (dq l) (st.extr.2.bnd.2.want [91]) := rfl
theorem qst_two (l : Nat) (st : St) : (st.qst l).2 = ((st.body l).2.want [93]).want [59] := by rw [St.qst]
theorem qst_f (l : Nat) (st : St) : (st.qst l).1.f = (st.body l).1 := by rw [St.qst]
theorem qst_kind (l : Nat) (st : St) : (st.qst l).1.kind = st.extr.1 ++ st.extr.2.bnd.1 := by rw [St.qst]
theorem body_le (l : Nat) (st : St) : Le (st.body l).2 st.extr.2 := by
  rw [body_two]
  exact ((rok_all (rok_dq l)).f.le _).trans ((want_le _ _).trans (bnd_le _))
theorem qst_le (l : Nat) (st : St) : Le (st.qst l).2 st.extr.2 := by
  rw [qst_two]
  exact (want_le _ _).trans ((want_le _ _).trans (body_le l st))
theorem qst_dec (l : Nat) : Dec qMore (fun s : St => s.qst l) := fun st h => by
  have h1 := qst_le l st
  exact ⟨Nat.lt_of_le_of_lt h1.1 (extr_lt (qmore_kind h)), fun hf => h1.2 ((extr_le st).2 hf)⟩
theorem ls_digs (x : List UInt8) (st : St) : Ls (st.digs x) st := by
  unfold St.digs
  split
  · exact ls_tl st
  · exact ls_fail 20 st
theorem ls_extr (st : St) : Ls st.extr.2 st := by
  unfold St.extr
  split
  · exact ls_tl st
  · split
    · exact ls_tl st
    · exact ls_fail 20 st
theorem ls_bnd (st : St) : Ls st.bnd.2 st := by
  unfold St.bnd
  split
  · exact (ls_digs _ _).trans (ls_tl st)
  · split
    · exact (ls_digs _ _).trans (ls_tl st)
    · exact ls_fail 20 st
/-- How a question is told. -/
def tQ (k : List UInt8) (x : Fo) : List UInt8 := k ++ ([32, 91, 32] ++ (tlF x ++ [32, 93]))
def Qr.told (q : Qr) : List UInt8 :=
  match q.f with
  | some f => tQ q.kind f ++ [59, 10]
  | none => []
def kdQ (k : List UInt8) : Prop := ∃ x y, k = x ++ y ∧ (x = wMin ∨ x = wMax) ∧ (y = [61, 49] ∨ y = [62, 48])
/-- Well made, with so many levels. -/
def QOk (l : Nat) (q : Qr) : Prop := ∃ f, q.f = some f ∧ OkF f ∧ OkL f ∧ ndF f ≤ l ∧ kdQ q.kind
theorem want_sum {x : List UInt8} {st : St} {r : List Tok} (h : st.want x = .good r) : ∃ us, st = .good us ∧ sumF us = x.length + sumF r := by
  obtain ⟨us, h1, h2, h3⟩ := want_good' h
  refine ⟨us, h1, ?_⟩
  obtain ⟨ht, hk⟩ := isT_text' h2
  have := sumf_hd (us := us) (by rintro rfl; exact isT_kind h2 rfl)
  rw [full_ne hk, ht, ← h3] at this
  exact this
theorem digs_sum {x : List UInt8} {st : St} {r : List Tok} (h : st.digs x = .good r) : sumS st = x.length + sumF r := by
  unfold St.digs at h
  split at h
  · next g =>
    have h1 := sum_tl (st := st) (by omega)
    rw [full_ne (by omega), g.2, h] at h1
    exact h1
  · exact (fail_bad (c := 20) (st := st) h).elim
theorem bnd_sum {st : St} {r : List Tok} (h : st.bnd.2 = .good r) : (st.bnd.1 = [61, 49] ∨ st.bnd.1 = [62, 48]) ∧ sumS st = 2 + sumF r := by
  unfold St.bnd at h ⊢
  split at h
  · next g =>
    rw [if_pos g]
    have h1 := sum_tl (isT_kind g)
    rw [full_ne (isT_text' g).2, (isT_text' g).1, digs_sum h] at h1
    exact ⟨.inl rfl, by simp at h1; omega⟩
  · next g =>
    rw [if_neg g]
    split at h
    · next g =>
      rw [if_pos g]
      have h1 := sum_tl (isT_kind g)
      rw [full_ne (isT_text' g).2, (isT_text' g).1, digs_sum h] at h1
      exact ⟨.inr rfl, by simp at h1; omega⟩
    · exact (fail_bad (c := 20) (st := st) h).elim
theorem extr_sum {st : St} {r : List Tok} (h : st.extr.2 = .good r) : (st.extr.1 = wMin ∨ st.extr.1 = wMax) ∧ sumS st = 4 + sumF r := by
  unfold St.extr at h ⊢
  split at h
  · next g =>
    rw [if_pos g]
    have h1 := sum_tl (isT_kind g)
    rw [full_ne (isT_text' g).2, (isT_text' g).1, show st.tl = .good r from h] at h1
    exact ⟨.inl rfl, by rw [h1]; rfl⟩
  · next g =>
    rw [if_neg g]
    split at h
    · next g =>
      rw [if_pos g]
      have h1 := sum_tl (isT_kind g)
      rw [full_ne (isT_text' g).2, (isT_text' g).1, show st.tl = .good r from h] at h1
      exact ⟨.inr rfl, by rw [h1]; rfl⟩
    · exact (fail_bad (c := 20) (st := st) h).elim
/-- A question that was read to its end. -/
theorem qst_good {l : Nat} {st : St} {r : List Tok} (hF : st.Fine) (hL : Lb st) (h : (st.qst l).2 = .good r) : QOk l (st.qst l).1 ∧ (st.qst l).1.told.length + 5 * sumF r ≤ 5 * sumS st := by
  have h' : ((st.body l).2.want [93]).want [59] = .good r := by rw [← qst_two]; exact h
  obtain ⟨u1, h1, s1⟩ := want_sum h'
  obtain ⟨u2, h2, s2⟩ := want_sum h1
  have hb : (formS (dq l) (st.extr.2.bnd.2.want [91])).2 = .good u2 := by rw [← body_two]; exact h2
  obtain ⟨u3, h3⟩ := rok_good (rok_all (rok_dq l)).f hb
  obtain ⟨u4, h4, s4⟩ := want_sum h3
  obtain ⟨k2, s5⟩ := bnd_sum h4
  have hx : ∃ u6, st.extr.2 = .good u6 := by
    cases he : st.extr.2 with
    | good us => exact ⟨us, rfl⟩
    | bad c p => rw [he] at h4; cases h4
  obtain ⟨u6, h6⟩ := hx
  obtain ⟨k1, s6⟩ := extr_sum h6
  rw [h6] at s5
  have ls3 : Ls (st.extr.2.bnd.2.want [91]) st := (ls_want _ _).trans ((ls_bnd _).trans (ls_extr st))
  have le3 : Le (st.extr.2.bnd.2.want [91]) st := (want_le _ _).trans ((bnd_le _).trans (extr_le st))
  obtain ⟨f, hf⟩ := (rok_all (rok_dq l)).f.some_ _ _ hb
  have ok1 := (rdf_dq (l + 1)).f (st.extr.2.bnd.2.want [91]) (le3.2 hF) f (by rw [dq_succ]; exact hf)
  obtain ⟨ok2, ok3, ok4⟩ := (rdx_all (rdx_dq l)).f.ok _ f (ls3.lb hL) hf
  rw [hb, h3] at ok4
  rw [nkf_zero] at ok3
  have ef : (st.qst l).1.f = some f := by rw [qst_f, body_two]; exact hf
  refine ⟨⟨f, ef, ok1, ok2, ok3, _, _, qst_kind l st, k1, k2⟩, ?_⟩
  have ek : (st.qst l).1.kind.length = 6 := by
    rw [qst_kind, List.length_append]
    rcases k1 with k1 | k1 <;> rcases k2 with k2 | k2 <;> rw [k1, k2] <;> rfl
  have et : (st.qst l).1.told = tQ (st.qst l).1.kind f ++ [59, 10] := by unfold Qr.told; rw [ef]
  rw [et, tQ]
  simp only [List.length_append, List.length_cons, List.length_nil] at s1 s2 s4 ⊢
  have a3 : sumS (St.good u3) = sumF u3 := rfl
  have a4 : sumS (St.good u2) = sumF u2 := rfl
  have a6 : sumS (St.good u6) = sumF u6 := rfl
  omega
theorem qsts_good (l : Nat) : ∀ (n : Nat) (st : St) (r : List Tok), st.len ≤ n → st.Fine → Lb st → (st.qsts l).2 = .good r → (∀ q ∈ (st.qsts l).1, QOk l q) ∧ ((st.qsts l).1.flatMap Qr.told).length + 5 * sumF r ≤ 5 * sumS st := by
  intro n
  induction n with
  | zero =>
    intro st r hn hF hL h
    have hp : qMore st.hd = false := by
      cases hp : qMore st.hd with
      | false => rfl
      | true => have := extr_lt (qmore_kind hp); omega
    have e : st.qsts l = ([], st) := list_end hp
    rw [e] at h ⊢
    subst h
    exact ⟨fun q hq => absurd hq (by simp), by simp [sumS]⟩
  | succ n ih =>
    intro st r hn hF hL h
    cases hp : qMore st.hd with
    | false =>
      have e : st.qsts l = ([], st) := list_end hp
      rw [e] at h ⊢
      subst h
      exact ⟨fun q hq => absurd hq (by simp), by simp [sumS]⟩
    | true =>
      have e : st.qsts l = ((st.qst l).1 :: ((st.qst l).2.qsts l).1, ((st.qst l).2.qsts l).2) := list_go (qst_dec l) hp
      rw [e] at h ⊢
      have hd := qst_dec l st hp
      have hd1 : (st.qst l).2.len < st.len := hd.1
      cases hs : (st.qst l).2 with
      | bad c p =>
        rw [hs] at h
        have e2 : (St.bad c p).qsts l = ([], .bad c p) := list_end rfl
        rw [e2] at h
        cases h
      | good r1 =>
        obtain ⟨q1, q2⟩ := qst_good hF hL hs
        have hl1 : Ls (st.qst l).2 st := by
          rw [qst_two, body_two]
          exact (ls_want _ _).trans ((ls_want _ _).trans (((rdx_all (rdx_dq l)).f.ls _).trans ((ls_want _ _).trans ((ls_bnd _).trans (ls_extr st)))))
        have hf1 : (st.qst l).2.Fine := hd.2 hF
        have hb1 := hl1.lb hL
        rw [hs] at hf1 hb1 hd1 h
        obtain ⟨i1, i2⟩ := ih (.good r1) r (by omega) hf1 hb1 h
        refine ⟨fun q hq => ?_, ?_⟩
        · rcases List.mem_cons.1 hq with rfl | hq
          · exact q1
          · exact i1 q hq
        · rw [List.flatMap_cons, List.length_append]
          have : sumS (.good r1) = sumF r1 := rfl
          omega
theorem parse_qs {D : Nat} {l : List UInt8} {L : List Qr} (hl : l.length ≤ 65536) (h : parseQs D l = .ok L) : (∀ q ∈ L, QOk (D - 1) q) ∧ (L.flatMap Qr.told).length ≤ 5 * l.length := by
  unfold parseQs at h
  cases ht : toks l with
  | error x => rw [ht] at h; cases h
  | ok ts =>
    rw [ht] at h
    simp only at h
    obtain ⟨hL, hs⟩ := lb_toks ht
    cases hr : St.qsts (D - 1) (.good ts) with
    | mk L' st =>
      rw [hr] at h
      cases st with
      | bad c p => cases h
      | good r =>
        injection h with h
        subst h
        have := qsts_good (D - 1) _ (.good ts) r (Nat.le_refl _) (fine_toks hl ht) hL (by rw [hr])
        rw [hr] at this
        exact ⟨this.1, by have h2 := this.2; simp only at h2; omega⟩
/-- The tokens of a told question. -/
def tkQ (q : Qr) : List Key :=
  match q.f with
  | some f => (1, q.kind.take 4) :: (4, (q.kind.drop 4).take 1) :: (2, q.kind.drop 5) :: (4, [91]) :: (tkF f ++ [(4, [93]), (4, [59])])
  | none => []
theorem scan_line (l : List UInt8) (p : Nat) : scanR (10 :: l) p = scanR l (p + 1) :=
  scanR_blank (10 :: l) l p 1 (by rw [show blanks false (10 :: l) = blanks false l + 1 by simp [blanks, blankB, Nat.add_comm], List.drop_succ_cons]) (by simp [blanks, blankB]) (by simp [Nat.add_comm])
theorem scan_wordQ {w : List UInt8} (hw : w = wMin ∨ w = wMax) {x : UInt8} (hx : x = 61 ∨ x = 62) (t : List UInt8) (p : Nat) : scanR (w ++ x :: t) p = onto [⟨1, w, p⟩] (scanR (x :: t) (p + w.length)) := by
  have hm : meas (w ++ x :: t) = (1, w.length, 0) := by
    have hxn : nameB x = false := by rcases hx with rfl | rfl <;> decide
    have ha : ∀ c ∈ w, nameB c = true := by rcases hw with rfl | rfl <;> decide
    have h := while_all hxn t ha
    obtain ⟨c, r, rfl, hc⟩ : ∃ c r, w = c :: r ∧ c = 80 := by rcases hw with rfl | rfl <;> exact ⟨80, _, rfl, rfl⟩
    subst hc
    rw [List.cons_append, meas, if_neg (by decide), if_pos (by decide)]
    unfold cnt
    rw [← List.cons_append, h]
  exact tok_scan (by rcases hw with rfl | rfl <;> simp [wMin, wMax]) hm (by decide) p
theorem scan_eq {x d : UInt8} (hx : x = 61 ∨ x = 62) (hd : d = 48 ∨ d = 49) (t : List UInt8) (p : Nat) : scanR (x :: d :: t) p = onto [⟨4, [x], p⟩] (scanR (d :: t) (p + 1)) := by
  have hm : meas ([x] ++ d :: t) = (4, ([x] : List UInt8).length, 0) := by
    rcases hx with rfl | rfl <;> rcases hd with rfl | rfl <;> simp [meas, digitB, letterB, quoteB, signN, twoB, oneB]
  exact tok_scan (l := [x]) (by simp) hm (by decide) p
theorem scan_dig {d : UInt8} (hd : d = 48 ∨ d = 49) (t : List UInt8) (p : Nat) : scanR (d :: 32 :: t) p = onto [⟨2, [d], p⟩] (scanR (32 :: t) (p + 1)) := by
  have hm : meas ([d] ++ 32 :: t) = (2, ([d] : List UInt8).length, 0) := by
    rcases hd with rfl | rfl <;> simp [meas, digitB, cnt, valOf, List.takeWhile]
  exact tok_scan (l := [d]) (by simp) hm (by decide) p
theorem scan_sg {x d : UInt8} (hx : (x = 91 ∧ d = 32) ∨ (x = 93 ∧ d = 59) ∨ (x = 59 ∧ d = 10)) (t : List UInt8) (p : Nat) : scanR (x :: d :: t) p = onto [⟨4, [x], p⟩] (scanR (d :: t) (p + 1)) := by
  have hm : meas ([x] ++ d :: t) = (4, ([x] : List UInt8).length, 0) := by
    rcases hx with ⟨rfl, rfl⟩ | ⟨rfl, rfl⟩ | ⟨rfl, rfl⟩ <;> simp [meas, digitB, letterB, quoteB, signN, twoB, oneB]
  exact tok_scan (l := [x]) (by simp) hm (by decide) p
theorem scan_told {l : Nat} {q : Qr} (h : QOk l q) (t : List UInt8) (p : Nat) : ∃ ini p', ini.map key = tkQ q ∧ scanR (q.told ++ t) p = onto ini (scanR t p') := by
  obtain ⟨f, hf, h1, h2, _, x, y, hk, hx, hy⟩ := h
  obtain ⟨c, d, rfl, hc, hd⟩ : ∃ c d, y = [c, d] ∧ (c = 61 ∨ c = 62) ∧ (d = 48 ∨ d = 49) := by
    rcases hy with rfl | rfl
    · exact ⟨61, 49, rfl, .inl rfl, .inr rfl⟩
    · exact ⟨62, 48, rfl, .inr rfl, .inl rfl⟩
  have hx4 : x.length = 4 := by rcases hx with rfl | rfl <;> rfl
  have e1 : q.told ++ t = x ++ c :: d :: 32 :: 91 :: 32 :: (tlF f ++ 32 :: 93 :: 59 :: 10 :: t) := by
    unfold Qr.told
    rw [hf]
    simp [tQ, hk]
  obtain ⟨ini, g1, g2⟩ := sc_tlF f h1 h2 (32 :: 93 :: 59 :: 10 :: t) (p + x.length + 1 + 1 + 1 + 1 + 1) (.inr ⟨32, _, rfl, .inl rfl⟩)
  have e2 : tkQ q = (1, x) :: (4, [c]) :: (2, [d]) :: (4, [91]) :: (tkF f ++ [(4, [93]), (4, [59])]) := by
    unfold tkQ
    rw [hf, hk]
    have a1 : (x ++ [c, d]).take 4 = x := by rw [← hx4]; exact List.take_left
    have a2 : (x ++ [c, d]).drop 4 = [c, d] := by rw [← hx4]; exact List.drop_left
    have a3 : (x ++ [c, d]).drop 5 = [d] := by rw [show 5 = x.length + 1 by omega, ← List.drop_drop, List.drop_left]; rfl
    simp only [a1, a2, a3]
    rfl
  rw [e1, e2, scan_wordQ hx hc, scan_eq hc hd, scan_dig hd, scan_blank, scan_sg (.inl ⟨rfl, rfl⟩), scan_blank, g2, scan_blank, scan_sg (.inr (.inl ⟨rfl, rfl⟩)), scan_sg (.inr (.inr ⟨rfl, rfl⟩)), scan_line]
  simp only [onto_onto]
  exact ⟨_, _, by simp [key, g1], rfl⟩
theorem scan_tolds {l : Nat} : ∀ (L : List Qr), (∀ q ∈ L, QOk l q) → ∀ p, ∃ ini p', ini.map key = L.flatMap tkQ ∧ scanR (L.flatMap Qr.told) p = .ok (ini ++ [⟨0, [], p'⟩])
  | [], _, p => ⟨[], p, rfl, by rw [List.flatMap_nil, scan_nil]; rfl⟩
  | q :: L, h, p => by
    obtain ⟨i1, p1, h1, h2⟩ := scan_told (h q List.mem_cons_self) (L.flatMap Qr.told) p
    obtain ⟨i2, p2, h3, h4⟩ := scan_tolds L (fun q hq => h q (List.mem_cons_of_mem _ hq)) p1
    exact ⟨i1 ++ i2, p2, by simp [h1, h3], by rw [List.flatMap_cons, h2, h4]; simp [onto]⟩
/-- The same, but for places. -/
def SameQ (a b : Qr) : Prop := a.kind = b.kind ∧ ∃ f g, a.f = some f ∧ b.f = some g ∧ f.bare = g.bare
theorem qst_back {l : Nat} {q : Qr} (h : QOk l q) {us T : List Tok} (hk : KT us T (tkQ q)) : ∃ q', (St.good us).qst l = (q', .good T) ∧ SameQ q q' := by
  obtain ⟨f, hf, h1, h2, h3, x, y, hkd, hx, hy⟩ := h
  obtain ⟨c, d, rfl, hcd⟩ : ∃ c d, y = [c, d] ∧ ((c = 61 ∧ d = 49) ∨ (c = 62 ∧ d = 48)) := by
    rcases hy with rfl | rfl
    · exact ⟨61, 49, rfl, .inl ⟨rfl, rfl⟩⟩
    · exact ⟨62, 48, rfl, .inr ⟨rfl, rfl⟩⟩
  have hx4 : x.length = 4 := by rcases hx with rfl | rfl <;> rfl
  have e2 : tkQ q = (1, x) :: (4, [c]) :: (2, [d]) :: (4, [91]) :: (tkF f ++ [(4, [93]), (4, [59])]) := by
    unfold tkQ
    rw [hf, hkd]
    have a1 : (x ++ [c, d]).take 4 = x := by rw [← hx4]; exact List.take_left
    have a2 : (x ++ [c, d]).drop 4 = [c, d] := by rw [← hx4]; exact List.drop_left
    have a3 : (x ++ [c, d]).drop 5 = [d] := by rw [show 5 = x.length + 1 by omega, ← List.drop_drop, List.drop_left]; rfl
    simp only [a1, a2, a3]
    rfl
  rw [e2] at hk
  obtain ⟨a1, a2, a3, _⟩ := hk.cons
  obtain ⟨b1, b2, b3, _⟩ := a3.cons
  obtain ⟨c1, c2, c3, _⟩ := b3.cons
  obtain ⟨d1, d2, d3, _⟩ := c3.cons
  obtain ⟨M, m1, m2⟩ := d3.app
  obtain ⟨i1, i2, i3, _⟩ := m2.cons
  obtain ⟨j1, j2, j3, _⟩ := i3.cons
  have jT := j3.nil
  have x1 : (St.good us).extr = (x, .good us.tail) := by
    have a2' : (hd us).text = x := a2
    unfold St.extr
    rcases hx with rfl | rfl
    · rw [if_pos (show isT (St.good us).hd wMin = true from isT_key (.inl a1) a2)]; rfl
    · rw [if_neg (by rw [show isT (St.good us).hd wMin = false from isT_no (by rw [show (St.good us).hd.text = wMax from a2']; decide)]; simp), if_pos (show isT (St.good us).hd wMax = true from isT_key (.inl a1) a2)]; rfl
  have x2 : (St.good us.tail).bnd = ([c, d], .good us.tail.tail.tail) := by
    have hdg : (St.good us.tail.tail).digs [d] = .good us.tail.tail.tail := by
      unfold St.digs
      rw [if_pos ⟨c1, c2⟩]
      rfl
    unfold St.bnd
    rcases hcd with ⟨rfl, rfl⟩ | ⟨rfl, rfl⟩
    · rw [if_pos (show isT (St.good us.tail).hd [61] = true from isT_key (.inr b1) b2)]
      show ([61, 49], (St.good us.tail.tail).digs [49]) = _
      rw [hdg]
    · rw [if_neg (by rw [show isT (St.good us.tail).hd [61] = false from isT_no (by rw [show (St.good us.tail).hd.text = [62] from b2]; decide)]; simp), if_pos (show isT (St.good us.tail).hd [62] = true from isT_key (.inr b1) b2)]
      show ([62, 48], (St.good us.tail.tail).digs [48]) = _
      rw [hdg]
  have x3 : (St.good us.tail.tail.tail).want [91] = .good us.tail.tail.tail.tail := want_go (isT_key (.inr d1) d2)
  obtain ⟨f', y1, y2⟩ := (backF_all f h1).1 0 l us.tail.tail.tail.tail M (by omega) (by rw [nkf_zero]; omega) (by simpa [tkP] using m1) (spf_of (op := [93]) (by rw [i1]; rfl) i2 (show pk [93] = 5 by decide) (.inr (by omega)))
  have y1' : formS (dq l) (.good us.tail.tail.tail.tail) = (some f', .good M) := y1
  have x5 : (St.good us).body l = (some f', .good M) := by
    unfold St.body
    rw [x1, x2, x3, y1']
  have x6 : (St.good M).want [93] = .good M.tail := want_go (isT_key (.inr i1) i2)
  have x7 : (St.good M.tail).want [59] = .good T := by rw [want_go (isT_key (.inr j1) j2), jT]
  refine ⟨⟨x ++ [c, d], some f', (hd us).pos⟩, ?_, hkd, f, f', hf, rfl, y2.symm⟩
  unfold St.qst
  rw [x5, x1, x2, x6, x7]
  rfl
/-- Two lists of questions, the same but for places. -/
inductive SameL : List Qr → List Qr → Prop where
  | nil : SameL [] []
  | cons {a b : Qr} {l m : List Qr} (h : SameQ a b) (t : SameL l m) : SameL (a :: l) (b :: m)
theorem SameL.len {l m : List Qr} (h : SameL l m) : l.length = m.length := by
  induction h with
  | nil => rfl
  | cons _ _ ih => simp [ih]
theorem SameL.get {l m : List Qr} (h : SameL l m) : ∀ (i : Nat) (h1 : i < l.length) (h2 : i < m.length), SameQ l[i] m[i] := by
  induction h with
  | nil => intro i h1; exact absurd h1 (by simp)
  | cons h _ ih =>
    intro i h1 h2
    cases i with
    | zero => exact h
    | succ i => exact ih i (by simpa using h1) (by simpa using h2)
theorem qsts_back {l : Nat} {E : Tok} (hE : E.kind = 0) : ∀ (L : List Qr), (∀ q ∈ L, QOk l q) → ∀ us, us.map key = L.flatMap tkQ → ∃ L', (St.good (us ++ [E])).qsts l = (L', .good [E]) ∧ SameL L L'
  | [], _, us, hu => by
    have : us = [] := by simpa using hu
    subst this
    refine ⟨[], list_end ?_, .nil⟩
    show qMore E = false
    simp [qMore, hE]
  | q :: L, h, us, hu => by
    rw [List.flatMap_cons] at hu
    have hkt : KT (us ++ [E]) [E] (tkQ q ++ L.flatMap tkQ) := ⟨us, rfl, hu⟩
    obtain ⟨M, h1, ini, h2, h3⟩ := hkt.app
    obtain ⟨q', h4, h5⟩ := qst_back (h q List.mem_cons_self) h1
    obtain ⟨L', h6, h7⟩ := qsts_back hE L (fun q hq => h q (List.mem_cons_of_mem _ hq)) ini h3
    refine ⟨q' :: L', ?_, .cons h5 h7⟩
    have hp : qMore (St.good (us ++ [E])).hd = true := by
      obtain ⟨f, hf, _⟩ := h q List.mem_cons_self
      have h1' := h1
      unfold tkQ at h1'
      rw [hf] at h1'
      obtain ⟨a1, _⟩ := h1'.cons
      show qMore (hd (us ++ [E])) = true
      simp [qMore, a1]
    have e := list_go (rd := fun s : St => s.qst l) (qst_dec l) hp
    have e' : (St.good (us ++ [E])).qsts l = (((St.good (us ++ [E])).qst l).1 :: (((St.good (us ++ [E])).qst l).2.qsts l).1, (((St.good (us ++ [E])).qst l).2.qsts l).2) := e
    rw [e', h4]
    simp only
    rw [h2, h6]
/-- There and back. -/
theorem parse_tolds {D : Nat} {L : List Qr} (h : ∀ q ∈ L, QOk (D - 1) q) : ∃ L', parseQs D (L.flatMap Qr.told) = .ok L' ∧ SameL L L' := by
  obtain ⟨ini, p', h1, h2⟩ := scan_tolds L h 0
  obtain ⟨L', h3, h4⟩ := qsts_back (E := ⟨0, [], p'⟩) rfl L h ini h1
  have ht : toks (L.flatMap Qr.told) = .ok (ini ++ [⟨0, [], p'⟩]) := by rw [toks_R, h2]
  exact ⟨L', by rw [parseQs, ht]; show endQ _ = _; rw [h3]; rfl, h4⟩
end
end Go.Proofs.YtjhicgllofjpoaaGreatDoor
