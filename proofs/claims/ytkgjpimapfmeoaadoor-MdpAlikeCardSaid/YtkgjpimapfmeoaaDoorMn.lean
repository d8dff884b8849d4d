/-
  A process with one choice more; a state's row of choices laid anew; labels in another order.
-/
import Derived.Test.YtkgjpimapfmeoaaDoorMk
import Derived.Test.YtkgjpimapfmeoaaDoorMe
import Derived.Test.YtkgjpimapfmeoaaDoorM8
namespace Go.Proofs.YtkgjpimapfmeoaaDoor
open Go.RowKit

def newO (t : Int) : ChO := ⟨⟨#[]⟩, [⟨t, 3⟩]⟩
def rowO (p : PrO) (k : Nat) (cs : List ChO) : PrO := ⟨p.init, p.chs.set k cs, p.nms, p.hds⟩
def growO (p : PrO) (k : Nat) (t : Int) : PrO := rowO p k (p.chs.getD k [] ++ [newO t])
section
variable {p : PrO} {k : Nat} {t : Int}
theorem getD_of {α : Type} {l : List α} {k : Nat} {d : α} (h : k < l.length) : l.getD k d = l[k] := by
  rw [List.getD_eq_getElem?_getD, List.getElem?_eq_getElem h]; rfl
theorem grow_right (hr : p.right) (hk : k < p.chs.length) (ht : 0 ≤ t ∧ t < (p.chs.length : Int)) : (growO p k t).right := by
  obtain ⟨h1, h2, h3, h4, h5, h6, h7⟩ := hr
  have e : (growO p k t).chs.length = p.chs.length := by simp [growO, rowO]
  refine ⟨by rw [e]; exact h1, by rw [e]; exact h2, by rw [e]; exact h3, by rw [e]; exact h4, ?_, h6, h7⟩
  rw [e]
  intro cs hcs
  rcases List.mem_or_eq_of_mem_set hcs with hcs | rfl
  · exact h5 cs hcs
  · have hm := h5 _ (List.getElem_mem hk)
    rw [getD_of hk]
    refine ⟨by simp, fun c hc => ?_⟩
    rcases List.mem_append.1 hc with hc | hc
    · exact hm.2 c hc
    · obtain rfl := List.mem_singleton.1 hc
      refine ⟨by simp [newO], by simp [newO], fun m hm' => ?_⟩
      obtain rfl := List.mem_singleton.1 hm'
      exact ⟨ht.1, ht.2, show (1 : Int) ≤ 3 by decide⟩
theorem grow_edg {s u : Nat} (hk : k < p.chs.length) (h : Edg p s u) : Edg (growO p k t) s u := by
  obtain ⟨cs, h1, c, h2, m, h3, h4⟩ := h
  by_cases hs : k = s
  · subst hs
    refine ⟨p.chs.getD k [] ++ [newO t], by simp [growO, rowO, hk], c, ?_, m, h3, h4⟩
    rw [List.getElem?_eq_getElem hk] at h1
    injection h1 with h1
    rw [getD_of hk, h1]
    exact List.mem_append_left _ h2
  · exact ⟨cs, by simp only [growO, rowO]; rw [List.getElem?_set_ne hs]; exact h1, c, h2, m, h3, h4⟩
theorem grow_rch {s : Nat} (hk : k < p.chs.length) (h : Rch p s) : Rch (growO p k t) s := by
  induction h with
  | init => exact Rch.init (p := growO p k t)
  | step _ he ih => exact .step ih (grow_edg hk he)
open Classical in
theorem rchB_inv {p : PrO} {s : Nat} (h : rchB p s = true) : Rch p s := by unfold rchB at h; exact of_decide_eq_true h
theorem marks_le {f g : Nat → Bool} (h : ∀ i, f i = true → g i = true) : ∀ n, (marks f n).length ≤ (marks g n).length
  | 0 => Nat.le_refl _
  | n + 1 => by
    have := marks_le h n
    rw [marks, marks, List.length_append, List.length_append]
    by_cases hf : f n = true
    · rw [h n hf, hf]; simp; omega
    · have hf' : f n = false := by simpa using hf
      rw [hf']; simp; omega
theorem grow_reach (hr : p.right) (hk : k < p.chs.length) (ht : 0 ≤ t ∧ t < (p.chs.length : Int)) : (∀ x ∈ reachO p, x ∈ reachO (growO p k t)) ∧ (reachO p).length ≤ (reachO (growO p k t)).length := by
  have e : (growO p k t).chs.length = p.chs.length := by simp [growO, rowO]
  rw [reachO, if_pos hr, reachO, if_pos (grow_right hr hk ht), e]
  have hm : ∀ i, rchB p i = true → rchB (growO p k t) i = true := fun i hi => rchB_yes (grow_rch hk (rchB_inv hi))
  refine ⟨fun x hx => ?_, marks_le hm _⟩
  rw [marks_mem] at hx ⊢
  obtain ⟨i, h1, h2, h3⟩ := hx
  exact ⟨i, h1, hm i h2, h3⟩
theorem grow_sml (hf : ¬ farO p) (hk : k < p.chs.length) : Sml (growO p k t) := by
  have hs := sml_of hf
  have hlen : ∀ cs ∈ p.chs, cs.length ≤ 10 := fun cs hc => by
    by_cases e : 10 < cs.length
    · exact absurd (.inr (.inr (.inr (.inl ⟨cs, hc, .inl e⟩)))) hf
    · omega
  have hg := hlen _ (List.getElem_mem hk)
  refine ⟨by simp [growO, rowO]; exact hs.ch, fun cs hc => ?_, fun cs hc c hcc => ?_, hs.nm, hs.hd, hs.hs⟩
  · rcases List.mem_or_eq_of_mem_set hc with hc | rfl
    · exact hs.cs cs hc
    · rw [getD_of hk, List.length_append]; simp; omega
  · rcases List.mem_or_eq_of_mem_set hc with hc | rfl
    · exact hs.mv cs hc c hcc
    · rw [getD_of hk] at hcc
      rcases List.mem_append.1 hcc with hcc | hcc
      · exact hs.mv _ (List.getElem_mem hk) c hcc
      · obtain rfl := List.mem_singleton.1 hcc
        simp [newO]
end
/-- Letters over the first two names, one way round and the other. -/
theorem two_from2 {n : Nat} : ∀ {h : List Int} {a : Int}, 2 ≤ a → holdR n a h → sO [0, 1] h = 0 ∧ sO [1, 0] h = 0
  | [], _, _, _ => ⟨rfl, rfl⟩
  | i :: r, a, ha, h => by
    have := two_from2 (h := r) (a := i + 1) (by have := h.1; omega) h.2.2
    have hi := h.1
    have h0 : ¬ (0 = i.toNat) := by omega
    have h1 : ¬ (1 = i.toNat) := by omega
    simp only [sO, vO, if_neg h0, if_neg h1]
    omega
theorem two_from1 {n : Nat} : ∀ {h : List Int} {a : Int}, 1 ≤ a → holdR n a h → ∃ b : Int, (b = 0 ∨ b = 1) ∧ sO [0, 1] h = 2 * b ∧ sO [1, 0] h = b
  | [], _, _, _ => ⟨0, .inl rfl, rfl, rfl⟩
  | i :: r, a, ha, h => by
    have hi := h.1
    by_cases e : i = 1
    · subst e
      have := two_from2 (h := r) (a := 1 + 1) (by decide) h.2.2
      refine ⟨1, .inr rfl, ?_, ?_⟩
      · simp [sO, vO, this.1]
      · simp [sO, vO, this.2]
    · have := two_from2 (h := r) (a := i + 1) (by omega) h.2.2
      have h0 : ¬ (0 = i.toNat) := by omega
      have h1 : ¬ (1 = i.toNat) := by omega
      refine ⟨0, .inl rfl, ?_, ?_⟩
      · simp only [sO, vO, if_neg h0, if_neg h1]; omega
      · simp only [sO, vO, if_neg h0, if_neg h1]; omega
theorem two_from0 {n : Nat} : ∀ {h : List Int}, holdR n 0 h → ∃ a b : Int, (a = 0 ∨ a = 1) ∧ (b = 0 ∨ b = 1) ∧ sO [0, 1] h = a + 2 * b ∧ sO [1, 0] h = b + 2 * a
  | [], _ => ⟨0, 0, .inl rfl, .inl rfl, rfl, rfl⟩
  | i :: r, h => by
    have hi := h.1
    by_cases e : i = 0
    · subst e
      obtain ⟨b, hb, h1, h2⟩ := two_from1 (h := r) (a := 0 + 1) (by decide) h.2.2
      refine ⟨1, b, .inr rfl, hb, ?_, ?_⟩
      · simp [sO, vO, h1]
      · simp [sO, vO, h2]; omega
    · obtain ⟨b, hb, h1, h2⟩ := two_from1 (n := n) (h := i :: r) (a := 1) (by decide) ⟨by omega, h.2.1, h.2.2⟩
      exact ⟨0, b, .inl rfl, hb, by omega, by omega⟩
theorem posO_nth {l : List ByteArray} (hn : l.Nodup) {i : Nat} (hi : i < l.length) : posO l l[i] = i := by
  have hm : l[i] ∈ l := List.getElem_mem hi
  have h1 := posO_get hm
  have h2 := posO_lt hm
  exact (List.getElem_inj hn).1 h1
/-- Letters of a right process over its first two names. -/
theorem two_let {p : PrO} (hr : p.right) {a b : ByteArray} {r : List ByteArray} (hn : p.nms = a :: b :: r) : letE p [a, b] = 0 ∧ letE p [b, a] = 0 ∧ letO p [a, b] = p.hds.map (sO [0, 1]) ∧ letO p [b, a] = p.hds.map (sO [1, 0]) := by
  have hnd := hr.2.2.2.2.2.1
  rw [hn] at hnd
  have hab : a ≠ b := by
    intro e
    subst e
    have := (List.nodup_cons.1 hnd).1
    exact this (by simp)
  have e0 : posO (a :: b :: r) a = 0 := posO_nth (l := a :: b :: r) hnd (i := 0) (by simp)
  have e1 : posO (a :: b :: r) b = 1 := posO_nth (l := a :: b :: r) hnd (i := 1) (by simp)
  have n1 : letE p [a, b] = 0 := letE_ok ⟨hr, by simp, by simp [hab]⟩ (by rw [hn]; simp)
  have n2 : letE p [b, a] = 0 := letE_ok ⟨hr, by simp, by simp [Ne.symm hab]⟩ (by rw [hn]; simp)
  refine ⟨n1, n2, ?_, ?_⟩
  · rw [letO, if_pos n1, atsO, hn]; simp [e0, e1]
  · rw [letO, if_pos n2, atsO, hn]; simp [e0, e1]
theorem two_bits {a b : Int} (ha : a = 0 ∨ a = 1) (hb : b = 0 ∨ b = 1) : Int.tmod (a + 2 * b) 2 = a ∧ Int.tdiv (a + 2 * b) 2 = b := by
  rcases ha with rfl | rfl <;> rcases hb with rfl | rfl <;> decide
theorem LI.at2 {α : Type} {P : Nat → Nat → α → List Value → Prop} {sz : Nat} (hs : ∀ l h a c, P l h a c → c.length = sz) : ∀ {xs : List α} {lo hi : Nat} {cs : List Value} {k : Nat} (hk : k < xs.length), LI P lo hi xs cs →
    ∃ l h c r1 r2, lo ≤ l ∧ l ≤ h ∧ h ≤ hi ∧ P l h xs[k] c ∧ cs = r1 ++ (c ++ r2) ∧ r1.length = k * sz ∧
      ∀ (Q : Nat → Nat → α → List Value → Prop) a' c', (∀ l' h' a c, (h' ≤ l ∨ h ≤ l') → lo ≤ l' → h' ≤ hi → P l' h' a c → Q l' h' a c) → Q l h a' c' → LI Q lo hi (xs.set k a') (r1 ++ (c' ++ r2))
  | x :: xs, lo, hi, cs, 0, hk, ⟨mid, c, r, h1, h2, h3, h4, h5⟩ => by
    refine ⟨lo, mid, c, [], r, Nat.le_refl _, h1, h2, h4, by simpa using h3, by simp, fun Q a' c' hpq hq => ?_⟩
    refine ⟨mid, c', r, h1, h2, by simp, hq, h5.imp fun l h a c hl hh hp => hpq l h a c (.inr hl) (by omega) hh hp⟩
  | x :: xs, lo, hi, cs, k + 1, hk, ⟨mid, c, r, h1, h2, h3, h4, h5⟩ => by
    obtain ⟨l, h, c1, r1, r2, g1, g2, g3, g4, g5, g6, g7⟩ := LI.at2 hs (k := k) (by simpa using hk) h5
    refine ⟨l, h, c1, c ++ r1, r2, by omega, g2, g3, g4, by rw [h3, g5, List.append_assoc], by rw [List.length_append, hs _ _ _ _ h4, g6, Nat.add_mul]; omega, fun Q a' c' hpq hq => ?_⟩
    refine ⟨mid, c, r1 ++ (c' ++ r2), h1, h2, by rw [List.append_assoc], hpq _ _ _ _ (.inl g1) (Nat.le_refl _) (by omega) h4, ?_⟩
    exact g7 Q a' c' (fun l' h' a c ho hl hh hp => hpq l' h' a c ho (by omega) hh hp) hq
/-- What stays, when the choices of one state are laid anew. -/
def Fr (l r lo hi : Nat) (w w' : World) : Prop := ∀ k cur t, lo ≤ k → k < hi → w.heap[k]? = some (.cells cur t (0, 0)) → t ≠ 50 → (l ≤ k → k < r → t ≠ 49 ∧ t ≠ 60) → w'.heap[k]? = some (.cells cur t (0, 0))
def StR (w : World) (_ _ : Nat) (l : List ChO) (cs : List Value) : Prop := ∃ A cap, cs = [.slice A l.length cap] ∧ l.length ≤ cap ∧ CSl w A l
theorem stR_len {w : World} : ∀ l h a c, StR w l h a c → c.length = 1 := by
  rintro l h a c ⟨A, cap, rfl, _⟩; rfl
theorem StI.r {w : World} {lo hi : Nat} {l : List ChO} {cs : List Value} (h : StI w lo hi l cs) : StR w lo hi l cs := by
  obtain ⟨A, cap, rc, rfl, h1, _, h2⟩ := h
  exact ⟨A, cap, rfl, (own_cells h1).1, csl_of h1 h2⟩
theorem PrI.row {w : World} {lo hi i : Nat} {v : PV} {p : PrO} (h : PrI w lo hi v p) (hi' : i < p.chs.length) :
    ∃ g l r B cap rc cur, v.A = some ⟨g, 0, none⟩ ∧ lo ≤ g ∧ g < hi ∧ lo ≤ l ∧ l ≤ r ∧ r ≤ hi ∧ w.cell? ⟨g, i, none⟩ = some (.slice B p.chs[i].length cap) ∧ w.heap[g]? = some (.cells cur 50 (0, 0)) ∧
      w.ownsRow l 49 2 (.slice B p.chs[i].length cap) p.chs[i].length rc ∧ OwnB (.slice B p.chs[i].length cap) r ∧ LI (ChI w) l r p.chs[i] rc ∧
      ∀ w' B' cs' cap', Fr l r lo hi w w' → (∀ j, j ≠ i → w'.cell? ⟨g, j, none⟩ = w.cell? ⟨g, j, none⟩) → w'.cell? ⟨g, i, none⟩ = some (.slice B' (List.length cs') cap') → cs'.length ≤ cap' → CSl w' B' cs' → PrM w' v (rowO p i cs') := by
  obtain ⟨⟨rc0, h1, h2, h3⟩, ⟨h4, h5⟩, ⟨rh, h6, h7, h8⟩⟩ := h
  obtain ⟨a1, _, a2, a3⟩ := own_cells h1
  obtain ⟨g, hg⟩ := a2 (by omega)
  obtain ⟨cur, hcur⟩ : ∃ cur, w.heap[g]? = some (.cells cur 50 (0, 0)) := by
    rcases h1.2 with ⟨hv, _⟩ | ⟨g', cap', cur, hv, _, hb, _, _⟩
    · injection hv with hv; rw [hg] at hv; cases hv
    · injection hv with hv
      rw [hg] at hv
      injection hv with hv
      injection hv with hv
      subst hv
      exact ⟨cur, hb⟩
  have hob : (Value.slice v.A p.chs.length v.a).ownBlock = some g := by rw [hg]; rfl
  have hgl := (h1.lt g hob).1
  have hgh := h2 g hob
  obtain ⟨l, r, c, r1, r2, b1, b2, b3, ⟨B, cap, rc, rfl, hm, hob2, hli⟩, rfl, hr, hre⟩ := h3.at2 stI_len hi'
  rw [Nat.mul_one] at hr
  refine ⟨g, l, r, B, cap, rc, cur, hg, hgl, hgh, b1, b2, b3, ?_, hcur, hm, hob2, hli, fun w' B' cs' cap' hfr hoth hnew hcap hcs => ?_⟩
  · exact a3 g hg (i + 0) _ ((mid_get hr (by simp)).trans rfl)
  · have hL := hre (StR w') cs' [.slice B' cs'.length cap'] (fun l' h' a c ho hl hh hp => StI.r (hp.keep fun k cur t k1 k2 k3 k4 => hfr k cur t (by omega) (by omega) k4 (by rcases k3 with rfl | rfl <;> decide) (fun q1 q2 => by omega))) ⟨B', cap', rfl, hcap, hcs⟩
    have h0 : PrI w' lo hi ⟨none, 0, v.B, v.b, v.C, v.c⟩ ⟨p.init, [], p.nms, p.hds⟩ := by
      have hk1 : Kp lo hi (fun t => t = 9) w w' := fun k cur t k1 k2 k3 k4 => hfr k cur t k1 k2 k4 (by rw [k3]; decide) (fun _ _ => by rw [k3]; decide)
      have hk2 : Kp lo hi (fun t => t = 36) w w' := fun k cur t k1 k2 k3 k4 => hfr k cur t k1 k2 k4 (by rw [k3]; decide) (fun _ _ => by rw [k3]; decide)
      have hk3 : Kp lo hi (fun t => t = 3) w w' := fun k cur t k1 k2 k3 k4 => hfr k cur t k1 k2 k4 (by rw [k3]; decide) (fun _ _ => by rw [k3]; decide)
      exact ⟨⟨[], World.ownsRow_nil _ _ _ _, fun _ h => (by cases h), rfl⟩, ⟨own_kp h4 h5 hk1 rfl, h5⟩, ⟨rh, own_kp h6 h7 hk2 rfl, h7, h8.imp fun l h a c hl hh hp => hp.keep (hk3.sub hl hh)⟩⟩
    have m0 := h0.mem
    refine ⟨fun j hj => ?_, by simp [rowO]; exact a1, m0.nm, m0.nmb, m0.hd, m0.hdc⟩
    obtain ⟨l2, r2', c2, s1, s2, _, _, _, ⟨B2, cap2, rfl, hc2, hcs2⟩, hrow, hr2, _⟩ := hL.at2 stR_len hj
    rw [Nat.mul_one] at hr2
    refine ⟨g, 0, B2, cap2, hg, ?_, hc2, hcs2⟩
    rw [Nat.zero_add]
    have hv := mid_get (r1 := s1) (c := [Value.slice B2 ((rowO p i cs').chs[j]).length cap2]) (r2 := s2) (n := j) (j := 0) hr2 (by simp)
    rw [← hrow] at hv
    by_cases hji : j = i
    · subst hji
      have hn2 := mid_get (r1 := r1) (c := [Value.slice B' cs'.length cap']) (r2 := r2) (n := j) (j := 0) hr (by simp)
      rw [hn2] at hv
      rw [hnew]
      exact hv
    · rw [hoth j hji]
      refine a3 g hg j _ ?_
      by_cases hlt : j < i
      · rw [List.getElem?_append_left (by omega)] at hv ⊢
        exact hv
      · rw [List.getElem?_append_right (by omega), List.getElem?_append_right (by simp; omega)] at hv ⊢
        exact hv
end Go.Proofs.YtkgjpimapfmeoaaDoor
