/-
  Tokens with the same kinds and texts are read as the same, errors and all, whatever their places.
-/
import Derived.Test.YtmgjpjjglghbaaaGreatDoorQR
import Derived.Test.YtmgjpjjglghbaaaGreatDoorMM
namespace Go.Proofs.YtmgjpjjglghbaaaGreatDoor
def key (t : Tok) : Nat × List UInt8 := (t.kind, t.text)
/-- The same kinds and texts. -/
def Tw (us us' : List Tok) : Prop := us.map key = us'.map key
section
variable {us us' : List Tok}
theorem Tw.hd (h : Tw us us') : (hd us).kind = (hd us').kind ∧ (hd us).text = (hd us').text := by
  unfold Tw at h
  cases us <;> cases us' <;> simp_all [Go.Proofs.YtmgjpjjglghbaaaGreatDoor.hd, key]
theorem Tw.tail (h : Tw us us') : Tw us.tail us'.tail := by unfold Tw at *; rw [List.map_tail, List.map_tail, h]
theorem Tw.len (h : Tw us us') : us.length = us'.length := by have := congrArg List.length h; simpa using this
theorem Tw.isT (h : Tw us us') (x : List UInt8) : isT (Go.Proofs.YtmgjpjjglghbaaaGreatDoor.hd us) x = isT (Go.Proofs.YtmgjpjjglghbaaaGreatDoor.hd us') x := isT_same h.hd.1 h.hd.2 x
theorem Tw.sg (h : Tw us us') (k : Nat) : sg k (Go.Proofs.YtmgjpjjglghbaaaGreatDoor.hd us) = sg k (Go.Proofs.YtmgjpjjglghbaaaGreatDoor.hd us') := sg_same h.hd.1 h.hd.2 k
end
/-- The same but for places. -/
def RelP : PR → PR → Prop
  | .ok e r, .ok e' r' => e.bare = e'.bare ∧ Tw r r'
  | .er c _, .er c' _ => c = c'
  | _, _ => False
def Rel (F : List Tok → PR) : Prop := ∀ us us', Tw us us' → RelP (F us) (F us')
section
variable {a b : PR} {op : List UInt8} {p p' : Nat} {e e' : Ex}
theorem rel_pre (h : RelP a b) : RelP (preX op p a) (preX op p' b) := by
  cases a <;> cases b <;> simp_all [RelP, preX, Ex.bare]
theorem rel_join (h : RelP a b) (he : e.bare = e'.bare) : RelP (joinX op e a) (joinX op e' b) := by
  cases a <;> cases b <;> simp_all [RelP, joinX, Ex.bare]
theorem rel_enc (h : RelP a b) : RelP (enclosedX p a) (enclosedX p' b) := by
  cases a <;> cases b <;> try first | exact h | exact h.elim
  rename_i x r y r'
  obtain ⟨h1, h2⟩ := h
  simp only [enclosedX]
  rw [h2.isT]
  split
  · exact ⟨by rw [bare_move, bare_move, h1], h2.tail⟩
  · rfl
theorem rel_condE {x y : Ex} (h : RelP a b) (he : e.bare = e'.bare) (hx : x.bare = y.bare) : RelP (condE e x a) (condE e' y b) := by
  cases a <;> cases b <;> simp_all [RelP, condE, Ex.bare]
end
structure Rel4 (d : Dp) : Prop where
  c : Rel d.c
  i : Rel d.i
  n : Rel d.n
  m : Rel d.m
theorem rel_atom {d : Dp} (h4 : Rel4 d) : Rel (atomX d) := by
  intro us us' h
  obtain ⟨hk, ht⟩ := h.hd
  unfold atomX
  rw [h.isT, hk, ht]
  split
  · exact rel_enc (h4.c _ _ h.tail)
  · split
    · exact ⟨by unfold wordX; split <;> rfl, h.tail⟩
    · split
      · exact ⟨rfl, h.tail⟩
      · rfl
theorem rel_minus {d : Dp} (h4 : Rel4 d) : Rel (minusX d) := by
  intro us us' h
  unfold minusX
  rw [h.isT]
  split
  · exact rel_pre (h4.m _ _ h.tail)
  · exact rel_atom h4 _ _ h
theorem rel_chainF {k : Nat} {F : List Tok → PR} (hF : Rel F) : ∀ (f : Nat) (e e' : Ex) (us us' : List Tok), Tw us us' → e.bare = e'.bare → RelP (chainF k F f e us) (chainF k F f e' us')
  | 0, _, _, _, _, h, he => ⟨he, h⟩
  | f + 1, e, e', us, us', h, he => by
    rw [chainF, chainF, h.sg, h.hd.2]
    split
    · have hj := rel_join (op := (hd us').text) (hF _ _ h.tail) he
      cases h1 : joinX (hd us').text e (F us.tail) <;> cases h2 : joinX (hd us').text e' (F us'.tail) <;> rw [h1, h2] at hj
      · exact rel_chainF hF f _ _ _ _ hj.2 hj.1
      · exact hj.elim
      · exact hj.elim
      · exact hj
    · exact ⟨he, h⟩
theorem rel_chain {k : Nat} {F : List Tok → PR} (hF : Rel F) : Rel (chainX k F) := by
  intro us us' h
  have hj := hF _ _ h
  unfold chainX
  cases h1 : F us <;> cases h2 : F us' <;> rw [h1, h2] at hj
  · simp only [chainG]
    rw [hj.2.len]
    exact rel_chainF hF _ _ _ _ _ hj.2 hj.1
  · exact hj.elim
  · exact hj.elim
  · exact hj
theorem rel_sum {d : Dp} (h4 : Rel4 d) : Rel (sumX d) := rel_chain (rel_chain (rel_minus h4))
theorem rel_comp {d : Dp} (h4 : Rel4 d) : Rel (compX d) := by
  intro us us' h
  have hj := rel_sum h4 _ _ h
  unfold compX
  cases h1 : sumX d us <;> cases h2 : sumX d us' <;> rw [h1, h2] at hj
  · simp only [compG]
    rw [hj.2.sg, hj.2.hd.2]
    split
    · exact rel_join (rel_sum h4 _ _ hj.2.tail) hj.1
    · exact hj
  · exact hj.elim
  · exact hj.elim
  · exact hj
theorem rel_neg {d : Dp} (h4 : Rel4 d) : Rel (negX d) := by
  intro us us' h
  unfold negX
  rw [h.isT]
  split
  · exact rel_pre (h4.n _ _ h.tail)
  · exact rel_comp h4 _ _ h
theorem rel_disj {d : Dp} (h4 : Rel4 d) : Rel (disjX d) := rel_chain (rel_chain (rel_neg h4))
theorem rel_impl {d : Dp} (h4 : Rel4 d) : Rel (implX d) := by
  intro us us' h
  have hj := rel_disj h4 _ _ h
  unfold implX
  cases h1 : disjX d us <;> cases h2 : disjX d us' <;> rw [h1, h2] at hj
  · simp only [implG]
    rw [hj.2.isT]
    split
    · exact rel_join (h4.i _ _ hj.2.tail) hj.1
    · exact hj
  · exact hj.elim
  · exact hj.elim
  · exact hj
theorem rel_condH {d : Dp} (h4 : Rel4 d) {e e' : Ex} {a b : PR} (he : e.bare = e'.bare) (hj : RelP a b) : RelP (condH d e a) (condH d e' b) := by
  cases a <;> cases b
  · simp only [condH]
    rw [hj.2.isT]
    split
    · exact rel_condE (h4.c _ _ hj.2.tail) he hj.1
    · rfl
  · exact hj.elim
  · exact hj.elim
  · exact hj
theorem rel_cond {d : Dp} (h4 : Rel4 d) : Rel (condX d) := by
  intro us us' h
  have hj := rel_impl h4 _ _ h
  unfold condX
  cases h1 : implX d us <;> cases h2 : implX d us' <;> rw [h1, h2] at hj
  · simp only [condG]
    rw [hj.2.isT]
    split
    · exact rel_condH h4 hj.1 (h4.c _ _ hj.2.tail)
    · exact hj
  · exact hj.elim
  · exact hj.elim
  · exact hj
theorem rel_deep : Rel deepX := fun _ _ _ => rfl
theorem rel_dp : ∀ l, Rel4 (dp l)
  | 0 => ⟨rel_deep, rel_deep, rel_deep, rel_deep⟩
  | l + 1 => ⟨rel_cond (rel_dp l), rel_impl (rel_dp l), rel_neg (rel_dp l), rel_minus (rel_dp l)⟩
/-- Texts with the same tokens are read as the same, or refused with the same number. -/
theorem rel_parse {D : Nat} {s t : List UInt8} {ts ms : List Tok} (hs : toks s = .ok ts) (ht : toks t = .ok ms) (h : Tw ts ms) : RelP (parseX D s) (parseX D t) := by
  rw [parse_ok hs, parse_ok ht]
  have hj := (rel_dp D).c _ _ h
  cases h1 : (dp D).c ts <;> cases h2 : (dp D).c ms <;> rw [h1, h2] at hj
  · simp only [endX]
    rw [hj.2.hd.1]
    split
    · exact hj
    · rfl
  · exact hj.elim
  · exact hj.elim
  · exact hj
/-- A token and a tab behind it: the same token. -/
theorem re_tab {r : List UInt8} {k n : Nat} (h0 : r ≠ []) (h : meas r = (k, n, 0)) (hk3 : k ≠ 3) (t : List UInt8) : meas (r.take n ++ 9 :: t) = (k, n, 0) := by
  cases r with
  | nil => exact absurd rfl h0
  | cons c r =>
    by_cases hd : digitB c = true
    · have hm : meas (c :: r) = (2, cnt digitB (c :: r), if valOf ((c :: r).takeWhile digitB) < 9223372036854775808 then 0 else 10) := by simp only [meas]; rw [if_pos hd]
      rw [hm] at h
      injection h with h1 h2
      injection h2 with h2 h3
      subst h1 h2
      rw [take_cnt]
      have hw := while_all (p := digitB) (x := 9) (by decide) t (all_while digitB (c :: r))
      have hc : ((c :: r).takeWhile digitB) = c :: r.takeWhile digitB := by rw [List.takeWhile_cons, if_pos hd]
      rw [hc, List.cons_append] at hw
      rw [hc, List.cons_append]
      simp only [meas]
      rw [if_pos hd]
      unfold cnt
      rw [hw]
      rw [hc] at h3
      rw [h3, hc]
    · by_cases hl : letterB c = true
      · have hm : meas (c :: r) = (1, cnt nameB (c :: r), 0) := by simp only [meas]; rw [if_neg hd, if_pos hl]
        rw [hm] at h
        injection h with h1 h2
        injection h2 with h2 h3
        subst h1 h2
        rw [take_cnt]
        have hn : nameB c = true := by simp [nameB, hl]
        have hw := while_all (p := nameB) (x := 9) (by decide) t (all_while nameB (c :: r))
        have hc : ((c :: r).takeWhile nameB) = c :: r.takeWhile nameB := by rw [List.takeWhile_cons, if_pos hn]
        rw [hc, List.cons_append] at hw
        rw [hc, List.cons_append]
        simp only [meas]
        rw [if_neg hd, if_pos hl]
        unfold cnt
        rw [hw, hc]
      · by_cases hq : quoteB c = true
        · have hm : meas (c :: r) = (3, labN r, if labN r = 0 then 20 else 0) := by simp only [meas]; rw [if_neg hd, if_neg hl, if_pos hq]
          rw [hm] at h
          injection h with h1 h2
          exact absurd h1.symm hk3
        · have hm : meas (c :: r) = (4, signN (c :: r), if signN (c :: r) = 0 then 20 else 0) := by simp only [meas]; rw [if_neg hd, if_neg hl, if_neg hq]
          rw [hm] at h
          injection h with h1 h2
          injection h2 with h2 h3
          subst h1 h2
          have hz : signN (c :: r) ≠ 0 := by intro hz; rw [if_pos hz] at h3; cases h3
          by_cases h2 : twoB (c :: r) = true
          · have hs : signN (c :: r) = 2 := by simp only [signN]; rw [if_pos h2]
            rw [hs]
            cases r with
            | nil => cases h2
            | cons b r =>
              have h2' : twoB (c :: b :: 9 :: t) = true := h2
              show meas (c :: b :: 9 :: t) = _
              have hs' : signN (c :: b :: 9 :: t) = 2 := by simp only [signN]; rw [if_pos h2']
              simp only [meas]
              rw [if_neg hd, if_neg hl, if_neg hq, hs']
              rfl
          · have ho : oneB c = true := by
              apply Classical.byContradiction
              intro hx
              apply hz
              simp only [signN]
              rw [if_neg h2, if_neg hx]
            have hs : signN (c :: r) = 1 := by simp only [signN]; rw [if_neg h2, if_pos ho]
            rw [hs]
            show meas (c :: 9 :: t) = _
            have h2' : twoB (c :: 9 :: t) = false := by simp [twoB]
            have hs' : signN (c :: 9 :: t) = 1 := by simp only [signN]; rw [if_neg (by simp [h2']), if_pos ho]
            simp only [meas]
            rw [if_neg hd, if_neg hl, if_neg hq, hs']
            rfl
def tabL (ts : List Tok) : List UInt8 := ts.flatMap (fun t => t.text ++ [9, 47, 47, 32, 41, 10, 32])
theorem tabL_snoc (ts : List Tok) (t : Tok) : tabL (ts ++ [t]) = tabL ts ++ (t.text ++ [9, 47, 47, 32, 41, 10, 32]) := by simp [tabL]
theorem tabL_cons (t : Tok) (ts : List Tok) : tabL (t :: ts) = t.text ++ (9 :: 47 :: 47 :: 32 :: 41 :: 10 :: 32 :: tabL ts) := by simp [tabL]
theorem tab_skip (l : List UInt8) (q : Nat) : scanR (9 :: 47 :: 47 :: 32 :: 41 :: 10 :: 32 :: l) q = scanR l (q + 7) := by
  have hb : blanks false (9 :: 47 :: 47 :: 32 :: 41 :: 10 :: 32 :: l) = 7 + blanks false l := by
    simp [blanks, blankB]
    omega
  refine scanR_blank _ _ q 7 ?_ hb (by simp; omega)
  rw [hb, Nat.add_comm]
  rfl
theorem head_skip (l : List UInt8) (q : Nat) : scanR (32 :: 47 :: 47 :: 32 :: 120 :: 10 :: l) q = scanR l (q + 6) := by
  have hb : blanks false (32 :: 47 :: 47 :: 32 :: 120 :: 10 :: l) = 6 + blanks false l := by
    simp [blanks, blankB]
    omega
  refine scanR_blank _ _ q 6 ?_ hb (by simp; omega)
  rw [hb, Nat.add_comm]
  rfl
theorem tab_ok {l : List UInt8} : ∀ {ts : List Tok} {i : Nat}, Good l i ts → (∀ t ∈ ts, t.kind ≠ 3) → ∀ p, ∃ ms, scanR (tabL ts) p = .ok ms ∧ Tw ts ms
  | [], _, h, _, _ => by simp [Good] at h
  | [t], i, h, _, p => by
    obtain ⟨h1, h2, h3, h4⟩ := h
    refine ⟨[⟨0, [], p + 7⟩], ?_, by simp [Tw, key, h1, h2]⟩
    rw [tabL_cons, h2, List.nil_append, tab_skip]
    show scanR [] (p + 7) = _
    rw [scanR_step]
    simp [blanks]
  | t :: v :: us, i, h, h3, p => by
    obtain ⟨h1, h2, ⟨n, hm, ht, hg⟩, _⟩ := h
    obtain ⟨hf, hfl⟩ := good_full h2 hm ht
    have h0 := drop_ne h2
    have hk := meas_kinds h0 hm
    have hk3 := h3 t (by simp)
    have hfu : full t = t.text := by unfold full; rw [if_neg hk3]
    rw [hfu] at hf hfl
    have hre := re_tab h0 hm hk3 (47 :: 47 :: 32 :: 41 :: 10 :: 32 :: tabL (v :: us))
    rw [← hf] at hre
    have hbl : blanks false (t.text ++ (9 :: 47 :: 47 :: 32 :: 41 :: 10 :: 32 :: tabL (v :: us))) = 0 := by
      cases hft : t.text with
      | nil => rw [hft] at hfl; simp at hfl; omega
      | cons c r =>
        rw [hft, List.cons_append] at hre
        obtain ⟨hb, hc⟩ := first_ok hre
        rw [List.cons_append, blanks, if_neg (by simp [hb]), if_neg (fun hx => hc hx.1)]
    obtain ⟨ms, hms, hs⟩ := tab_ok hg (fun u hu => h3 u (List.mem_cons_of_mem _ hu)) (p + n + 7)
    have hst := scanR_step (tabL (t :: v :: us)) p
    rw [tabL_cons, hbl] at hst
    simp only [List.drop_zero, Nat.add_zero] at hst
    rw [hre, if_neg (by simp)] at hst
    simp only [if_true] at hst
    rw [List.take_left' hfl, List.drop_left' hfl, tab_skip, hms] at hst
    rw [tabL_cons]
    refine ⟨_, hst, ?_⟩
    unfold Tw at hs ⊢
    have hb3 : bareL t.kind t.text = t.text := by unfold bareL; rw [if_neg hk3]
    simp only [List.map_cons, key] at hs ⊢
    simp [key, hb3, hs]
/-- The text with blanks and comments. -/
def blkL (ts : List Tok) : List UInt8 := 32 :: 47 :: 47 :: 32 :: 120 :: 10 :: tabL ts
theorem blk_toks {l : List UInt8} {ts : List Tok} (h : toks l = .ok ts) (h3 : ∀ t ∈ ts, t.kind ≠ 3) : ∃ ms, toks (blkL ts) = .ok ms ∧ Tw ts ms := by
  obtain ⟨ms, h1, h2⟩ := tab_ok (good_toks h) h3 6
  refine ⟨ms, ?_, h2⟩
  rw [toks_R, blkL, head_skip]
  exact h1
end Go.Proofs.YtmgjpjjglghbaaaGreatDoor
