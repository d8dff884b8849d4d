/-
  Rows of one's own in a drawn region: what is kept by each kind of operation.
-/
import Derived.Test.YtmgjpjjglghbaaaGreatDoorOX
import Derived.Test.YtmgjpjjglghbaaaGreatDoorOy
import Derived.StillTail
namespace Go.Proofs.YtmgjpjjglghbaaaGreatDoor
open Go Go.RowKit

/-- What a region's operations do: V a value whatever the order; R a row of numbers, with who takes it and what it holds; D the slot; a box of two slices (bx) that is filled (st) with two rows (r1, r2) that are put together (bd). -/
structure RTab where
  V : Nat → Option Value
  R : Nat → Option (Nat × List Int)
  D : Nat → Nat
  bx : Nat
  bd : Nat
  st : Nat
  r1 : Nat
  r2 : Nat
def bxC (T : RTab) (L : Array Bool) (vs : Nat → Value) : List Value := if L.getD T.st false = true then [vs (T.D T.r1), vs (T.D T.r2)] else [.slice none 0 0, .slice none 0 0]
structure RInv (T : RTab) (wc : World) (L : Array Bool) (vs : Nat → Value) (w : World) : Prop where
  bel : Below wc.heap.size wc w
  val : ∀ i v, T.V i = some v → L.getD i false = true → vs (T.D i) = v
  own : ∀ i c l, T.R i = some (c, l) → L.getD i false = true → L.getD c false = false → w.ownsRow wc.heap.size 3 1 (vs (T.D i)) l.length (l.map iv)
  apt : ∀ i j c l c' l', T.R i = some (c, l) → T.R j = some (c', l') → i ≠ j → L.getD i false = true → L.getD j false = true → L.getD c false = false → L.getD c' false = false → ∀ k, (vs (T.D i)).ownBlock = some k → (vs (T.D j)).ownBlock ≠ some k
  bd : L.getD T.bd false = true → vs (T.D T.bd) = .agg #[vs (T.D T.r1), vs (T.D T.r2)] ∧ L.getD T.r1 false = true ∧ L.getD T.r2 false = true
  sd : L.getD T.st false = true → L.getD T.bd false = true ∧ L.getD T.bx false = true
  bx : L.getD T.bx false = true → ∃ q, vs (T.D T.bx) = .pointer (some ⟨q, 0, none⟩) ∧ wc.heap.size ≤ q ∧ Bx w q 42 (bxC T L vs)
theorem gs_t {L : Array Bool} {i j : Nat} (h : (L.setIfInBounds i true).getD j false = true) : j = i ∨ L.getD j false = true := by
  by_cases hj : j = i
  · exact .inl hj
  · rw [getD_set_ne false (Ne.symm hj)] at h; exact .inr h
theorem gs_f {L : Array Bool} {i j : Nat} (hi : i < L.size) (h : (L.setIfInBounds i true).getD j false = false) : j ≠ i ∧ L.getD j false = false := by
  by_cases hj : j = i
  · subst hj
    simp [Array.getD, hi] at h
  · rw [getD_set_ne false (Ne.symm hj)] at h; exact ⟨hj, h⟩
theorem gs_of {L : Array Bool} {i j : Nat} (h : L.getD j false = true) : (L.setIfInBounds i true).getD j false = true := by
  by_cases hj : j = i
  · subst hj
    have : j < L.size := by
      apply Classical.byContradiction
      intro hn
      simp [Array.getD, hn] at h
    simp [Array.getD, this]
  · rw [getD_set_ne false (Ne.symm hj)]; exact h
section
variable {T : RTab} {wc w w' : World} {L : Array Bool} {vs vs' : Nat → Value} {i : Nat}
/-- One operation more. -/
theorem RInv.step (h : RInv T wc L vs w) (hi : L.getD i true = false) (hvs : ∀ j, j ≠ i → vs' (T.D j) = vs (T.D j)) (hb : Below wc.heap.size wc w')
    (hv : ∀ v, T.V i = some v → vs' (T.D i) = v)
    (ho : ∀ c l, T.R i = some (c, l) → w'.ownsRow wc.heap.size 3 1 (vs' (T.D i)) l.length (l.map iv))
    (hk : ∀ j c l, j ≠ i → T.R j = some (c, l) → L.getD j false = true → L.getD c false = false → c ≠ i → w'.ownsRow wc.heap.size 3 1 (vs (T.D j)) l.length (l.map iv))
    (ha : ∀ c l, T.R i = some (c, l) → ∀ j c' l', j ≠ i → T.R j = some (c', l') → L.getD j false = true → L.getD c' false = false → c' ≠ i → ∀ k, (vs' (T.D i)).ownBlock = some k → (vs (T.D j)).ownBlock ≠ some k)
    (hbd : i = T.bd → T.r1 ≠ i ∧ T.r2 ≠ i ∧ vs' (T.D i) = .agg #[vs (T.D T.r1), vs (T.D T.r2)] ∧ L.getD T.r1 false = true ∧ L.getD T.r2 false = true)
    (hst : i = T.st → L.getD T.bd false = true ∧ L.getD T.bx false = true)
    (hbx : (L.setIfInBounds i true).getD T.bx false = true → ∃ q, vs' (T.D T.bx) = .pointer (some ⟨q, 0, none⟩) ∧ wc.heap.size ≤ q ∧ Bx w' q 42 (bxC T (L.setIfInBounds i true) vs')) :
    RInv T wc (L.setIfInBounds i true) vs' w' := by
  obtain ⟨hl, -⟩ := getDB_lt hi
  have hun : L.getD i false = false := getD_both hi
  have hne : ∀ j, L.getD j false = true → j ≠ i := fun j hj e => by subst e; rw [hun] at hj; cases hj
  refine ⟨hb, fun j v hj h1 => ?_, fun j c l hj h1 h2 => ?_, fun j j' c l c' l' hj hj' hjj h1 h2 h3 h4 k hk1 => ?_, fun h1 => ?_, fun h1 => ?_, hbx⟩
  · by_cases e : j = i
    · subst e; exact hv v hj
    · rw [hvs j e]; exact h.val j v hj ((gs_t h1).resolve_left e)
  · obtain ⟨n2, f2⟩ := gs_f hl h2
    by_cases e : j = i
    · subst e; exact ho c l hj
    · rw [hvs j e]; exact hk j c l e hj ((gs_t h1).resolve_left e) f2 n2
  · obtain ⟨n3, f3⟩ := gs_f hl h3
    obtain ⟨n4, f4⟩ := gs_f hl h4
    by_cases e : j = i
    · subst e
      have e' : j' ≠ j := Ne.symm hjj
      rw [hvs j' e']
      exact ha c l hj j' c' l' e' hj' ((gs_t h2).resolve_left e') f4 n4 k hk1
    · by_cases e' : j' = i
      · subst e'
        rw [hvs j e] at hk1
        intro hk2
        exact ha c' l' hj' j c l e hj ((gs_t h1).resolve_left e) f3 n3 k hk2 hk1
      · rw [hvs j e] at hk1
        rw [hvs j' e']
        exact h.apt j j' c l c' l' hj hj' hjj ((gs_t h1).resolve_left e) ((gs_t h2).resolve_left e') f3 f4 k hk1
  · rcases gs_t h1 with e | h1
    · obtain ⟨n1, n2, e1, e2, e3⟩ := hbd e.symm
      rw [hvs _ n1, hvs _ n2, e]
      exact ⟨e1, gs_of e2, gs_of e3⟩
    · obtain ⟨e1, e2, e3⟩ := h.bd h1
      rw [hvs _ (hne _ h1), hvs _ (hne _ e2), hvs _ (hne _ e3)]
      exact ⟨e1, gs_of e2, gs_of e3⟩
  · rcases gs_t h1 with e | h1
    · exact ⟨gs_of (hst e.symm).1, gs_of (hst e.symm).2⟩
    · exact ⟨gs_of (h.sd h1).1, gs_of (h.sd h1).2⟩
/-- The box is as it was. -/
theorem RInv.bxk (h : RInv T wc L vs w) (hi : L.getD i true = false) (h1 : i ≠ T.bx) (h2 : i ≠ T.st) (hvs : ∀ j, j ≠ i → vs' (T.D j) = vs (T.D j)) (hw : ∀ q cs, wc.heap.size ≤ q → Bx w q 42 cs → Bx w' q 42 cs) :
    (L.setIfInBounds i true).getD T.bx false = true → ∃ q, vs' (T.D T.bx) = .pointer (some ⟨q, 0, none⟩) ∧ wc.heap.size ≤ q ∧ Bx w' q 42 (bxC T (L.setIfInBounds i true) vs') := by
  intro hb
  have hun : L.getD i false = false := getD_both hi
  have hne : ∀ j, L.getD j false = true → j ≠ i := fun j hj e => by subst e; rw [hun] at hj; cases hj
  obtain ⟨q, e1, e2, e3⟩ := h.bx ((gs_t hb).resolve_left (Ne.symm h1))
  refine ⟨q, by rw [hvs _ (Ne.symm h1)]; exact e1, e2, ?_⟩
  have : bxC T (L.setIfInBounds i true) vs' = bxC T L vs := by
    unfold bxC
    rw [getD_set_ne false h2]
    split
    · next g =>
      obtain ⟨-, g1, g2⟩ := h.bd (h.sd g).1
      rw [hvs _ (hne _ g1), hvs _ (hne _ g2)]
    · rfl
  rw [this]
  exact hw q _ e2 e3
/-- An operation that only yields a value. -/
theorem RInv.pure (h : RInv T wc L vs w) (hi : L.getD i true = false) {v : Value} (hV : T.V i = some v) (hR : T.R i = none) (h1 : i ≠ T.bx) (h2 : i ≠ T.st) (h3 : i ≠ T.bd) (hD : ∀ j, j ≠ i → T.D j ≠ T.D i) : RInv T wc (L.setIfInBounds i true) (upd vs (T.D i) v) w := by
  have hvs : ∀ j, j ≠ i → upd vs (T.D i) v (T.D j) = vs (T.D j) := fun j hj => upd_ne (hD j hj)
  exact h.step hi hvs h.bel (fun u hu => by rw [hV] at hu; injection hu with hu; rw [upd_same, hu]) (fun c l hr => by rw [hR] at hr; cases hr) (fun j c l e hr a b _ => h.own j c l hr a b) (fun c l hr => by rw [hR] at hr; cases hr) (fun e => absurd e h3) (fun e => absurd e h2) (h.bxk hi h1 h2 hvs (fun _ _ _ hb => hb))
/-- A row that is laid anew. -/
theorem RInv.row (h : RInv T wc L vs w) (hi : L.getD i true = false) {c : Nat} {l : List Int} (hR : T.R i = some (c, l)) (hV : T.V i = none) (h1 : i ≠ T.bx) (h2 : i ≠ T.st) (h3 : i ≠ T.bd) (hD : ∀ j, j ≠ i → T.D j ≠ T.D i) {v : Value} {row : Option Nat}
    (hg : w.grownBy w' row) (hb : Below wc.heap.size wc w') (ho : w'.ownsRow wc.heap.size 3 1 v l.length (l.map iv)) (hv : v.ownBlock = row ∨ v.ownBlock = some w.heap.size)
    (hrow : ∀ j c' l', j ≠ i → T.R j = some (c', l') → L.getD j false = true → L.getD c' false = false → c' ≠ i → ∀ k, (vs (T.D j)).ownBlock = some k → some k ≠ row)
    (hrb : ∀ q cs, row = some q → ¬ Bx w q 42 cs) : RInv T wc (L.setIfInBounds i true) (upd vs (T.D i) v) w' := by
  have hvs : ∀ j, j ≠ i → upd vs (T.D i) v (T.D j) = vs (T.D j) := fun j hj => upd_ne (hD j hj)
  refine h.step hi hvs hb (fun u hu => by rw [hV] at hu; cases hu) (fun c' l' hr => by rw [hR] at hr; injection hr with hr; injection hr with e1 e2; subst e1 e2; rw [upd_same]; exact ho) (fun j c' l' e hr a b n => ?_) (fun c' l' hr j c'' l'' e hr' a b n k hk => ?_) (fun e => absurd e h3) (fun e => absurd e h2) (h.bxk hi h1 h2 hvs (fun q cs _ hbx => (hg.block q hbx.lt (fun e => hrb q cs e.symm hbx)).trans hbx))
  · refine (h.own j c' l' hr a b).kept hg ?_
    cases hob : (vs (T.D j)).ownBlock with
    | none => exact .inl rfl
    | some k => exact .inr (hrow j c' l' e hr a b n k hob)
  · intro hk2
    rw [upd_same] at hk
    rcases hv with hv | hv
    · exact hrow j c'' l'' e hr' a b n k hk2 (by rw [← hk, hv])
    · have := (h.own j c'' l'' hr' a b).lt k hk2
      rw [hv] at hk
      injection hk with hk
      omega
end
end Go.Proofs.YtmgjpjjglghbaaaGreatDoor
