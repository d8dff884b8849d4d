/-
  Processes that differ in weights and in the order of moves alone; processes that are not alike.
-/
import Derived.Test.YtkgjpimapfmeoaaDoorMs
namespace Go.Proofs.YtkgjpimapfmeoaaDoor
open Go.RowKit

def SimM (l l' : List MvO) : Prop := (l'.map MvO.to).Perm (l.map MvO.to) ∧ ∀ m ∈ l', 1 ≤ m.wt
def SimC (c c' : ChO) : Prop := c'.act = c.act ∧ SimM c.mv c'.mv
def SimS (l l' : List ChO) : Prop := l'.length = l.length ∧ ∀ i (h : i < l.length) (h' : i < l'.length), SimC l[i] l'[i]
structure SimP (p p' : PrO) : Prop where
  init : p'.init = p.init
  nms : p'.nms = p.nms
  hds : p'.hds = p.hds
  len : p'.chs.length = p.chs.length
  ch : ∀ i (h : i < p.chs.length) (h' : i < p'.chs.length), SimS p.chs[i] p'.chs[i]
theorem srt_sim {l l' : List MvO} (h : SimM l l') : srt l' = srt l := by
  refine List.Perm.eq_of_pairwise (le := fun a b => a ≤ b) (fun a b _ _ h1 h2 => by omega) (srt_pw l') (srt_pw l) ?_
  exact (srt_perm l').trans (h.1.trans (srt_perm l).symm)
theorem SimM.len {l l' : List MvO} (h : SimM l l') : l'.length = l.length := by simpa using h.1.length_eq
theorem SimC.key {c c' : ChO} (h : SimC c c') : key c' = key c := by rw [Go.Proofs.YtkgjpimapfmeoaaDoor.key, Go.Proofs.YtkgjpimapfmeoaaDoor.key, h.1, srt_sim h.2]
theorem SimS.keys {l l' : List ChO} (h : SimS l l') : keys l' = keys l := by
  unfold Go.Proofs.YtkgjpimapfmeoaaDoor.keys
  exact eqk_yes h.1 fun i h1 h2 => (h.2 i h2 h1).key
section
variable {p p' : PrO}
theorem SimP.alike (h : SimP p p') : alikeO p p' := ⟨h.init.symm, h.nms.symm, h.hds.symm, eqk_yes h.len.symm fun i h1 h2 => (h.ch i h1 h2).keys.symm⟩
theorem alike_sym {p q : PrO} (h : alikeO p q) : alikeO q p := ⟨h.1.symm, h.2.1.symm, h.2.2.1.symm, h.2.2.2.symm⟩
theorem SimP.refl (hr : p.right) : SimP p p := ⟨rfl, rfl, rfl, rfl, fun _ h _ => ⟨rfl, fun _ hj _ => ⟨rfl, List.Perm.refl _, fun m hm => (((hr.2.2.2.2.1 _ (List.getElem_mem h)).2 _ (List.getElem_mem hj)).2.2 m hm).2.2⟩⟩⟩
theorem SimM.to_mem {l l' : List MvO} (h : SimM l l') (m : MvO) (hm : m ∈ l') : ∃ m' ∈ l, m'.to = m.to := by
  have h1 : m.to ∈ l.map MvO.to := h.1.mem_iff.1 (List.mem_map.2 ⟨m, hm, rfl⟩)
  obtain ⟨m', h2, h3⟩ := List.mem_map.1 h1
  exact ⟨m', h2, h3⟩
theorem SimM.right {n : Nat} {l l' : List MvO} (h : SimM l l') (hr : movR n l) : movR n l' := by
  obtain ⟨h1, h2, h3⟩ := hr
  refine ⟨fun e => h1 (List.eq_nil_of_length_eq_zero (by rw [← h.len, e]; rfl)), h.1.nodup_iff.2 h2, fun m hm => ?_⟩
  obtain ⟨m', h4, h5⟩ := h.to_mem m hm
  have := h3 m' h4
  exact ⟨by omega, by omega, h.2 m hm⟩
theorem SimP.right (h : SimP p p') (hr : p.right) : p'.right := by
  obtain ⟨h1, h2, h3, h4, h5, h6, h7⟩ := hr
  refine ⟨by rw [h.len]; exact h1, by rw [h.len]; exact h2, by rw [h.len, h.init]; exact h3, by rw [h.len, h.hds]; exact h4, ?_, by rw [h.nms]; exact h6, by rw [h.nms, h.hds]; exact h7⟩
  intro cs hcs
  obtain ⟨i, hi, rfl⟩ := List.mem_iff_getElem.1 hcs
  have hi' : i < p.chs.length := by rw [← h.len]; exact hi
  have hs := h.ch i hi' hi
  have hl := h5 _ (List.getElem_mem hi')
  refine ⟨fun e => hl.1 (List.eq_nil_of_length_eq_zero (by rw [← hs.1, e]; rfl)), fun c hc => ?_⟩
  obtain ⟨j, hj, rfl⟩ := List.mem_iff_getElem.1 hc
  have hj' : j < p.chs[i].length := by rw [← hs.1]; exact hj
  rw [h.len]
  exact (hs.2 j hj' hj).2.right (hl.2 _ (List.getElem_mem hj'))
theorem SimP.edg (h : SimP p p') {s t : Nat} : Edg p' s t ↔ Edg p s t := by
  constructor
  · rintro ⟨cs, h1, c, h2, m, h3, h4⟩
    obtain ⟨hi, rfl⟩ := List.getElem?_eq_some_iff.1 h1
    have hi' : s < p.chs.length := by rw [← h.len]; exact hi
    have hs := h.ch s hi' hi
    obtain ⟨j, hj, rfl⟩ := List.mem_iff_getElem.1 h2
    have hj' : j < p.chs[s].length := by rw [← hs.1]; exact hj
    obtain ⟨m', h5, h6⟩ := (hs.2 j hj' hj).2.to_mem m h3
    exact ⟨_, List.getElem?_eq_getElem hi', _, List.getElem_mem hj', m', h5, by rw [h6, h4]⟩
  · rintro ⟨cs, h1, c, h2, m, h3, h4⟩
    obtain ⟨hi, rfl⟩ := List.getElem?_eq_some_iff.1 h1
    have hi' : s < p'.chs.length := by rw [h.len]; exact hi
    have hs := h.ch s hi hi'
    obtain ⟨j, hj, rfl⟩ := List.mem_iff_getElem.1 h2
    have hj' : j < p'.chs[s].length := by rw [hs.1]; exact hj
    have hm : m.to ∈ (p'.chs[s][j].mv.map MvO.to) := (hs.2 j hj hj').2.1.mem_iff.2 (List.mem_map.2 ⟨m, h3, rfl⟩)
    obtain ⟨m', h5, h6⟩ := List.mem_map.1 hm
    exact ⟨_, List.getElem?_eq_getElem hi', _, List.getElem_mem hj', m', h5, by rw [h6, h4]⟩
theorem SimP.rch (h : SimP p p') (s : Nat) : Rch p' s ↔ Rch p s := by
  constructor
  · intro hr
    induction hr with
    | init => rw [h.init]; exact .init
    | step _ he ih => exact .step ih (h.edg.1 he)
  · intro hr
    induction hr with
    | init => rw [← h.init]; exact .init
    | step _ he ih => exact .step ih (h.edg.2 he)
theorem SimP.reach (h : SimP p p') (hr : p.right) : reachO p' = reachO p := by
  rw [reachO, if_pos (h.right hr), reachO, if_pos hr, h.len]
  refine marks_congr fun i _ => ?_
  by_cases hi : Rch p i
  · rw [rchB_yes hi, rchB_yes ((h.rch i).2 hi)]
  · rw [rchB_no hi, rchB_no (fun e => hi ((h.rch i).1 e))]
theorem SimP.sml (h : SimP p p') (hs : Sml p) : Sml p' := by
  refine ⟨by rw [h.len]; exact hs.ch, fun cs hc => ?_, fun cs hc c hcc => ?_, by rw [h.nms]; exact hs.nm, by rw [h.hds]; exact hs.hd, by rw [h.hds]; exact hs.hs⟩
  · obtain ⟨i, hi, rfl⟩ := List.mem_iff_getElem.1 hc
    have hi' : i < p.chs.length := by rw [← h.len]; exact hi
    rw [(h.ch i hi' hi).1]
    exact hs.cs _ (List.getElem_mem hi')
  · obtain ⟨i, hi, rfl⟩ := List.mem_iff_getElem.1 hc
    have hi' : i < p.chs.length := by rw [← h.len]; exact hi
    have hss := h.ch i hi' hi
    obtain ⟨j, hj, rfl⟩ := List.mem_iff_getElem.1 hcc
    have hj' : j < p.chs[i].length := by rw [← hss.1]; exact hj
    rw [(hss.2 j hj' hj).2.len]
    exact hs.mv _ (List.getElem_mem hi') _ (List.getElem_mem hj')
/-- One choice's moves laid anew. -/
def chO (cs : List ChO) (j : Nat) (c : ChO) : List ChO := cs.set j c
theorem SimP.set (h : SimP p p') {i j : Nat} (hi : i < p'.chs.length) {c : ChO} (hi0 : i < p.chs.length) (hj0 : j < p.chs[i].length) (hc : SimC p.chs[i][j] c) : SimP p (rowO p' i (p'.chs[i].set j c)) := by
  refine ⟨h.init, h.nms, h.hds, by simp [rowO]; exact h.len, fun i' h1 h2 => ?_⟩
  have h2' : i' < p'.chs.length := by simpa [rowO] using h2
  have hs := h.ch i' h1 h2'
  by_cases e : i = i'
  · subst e
    have e2 : (rowO p' i (p'.chs[i].set j c)).chs[i] = p'.chs[i].set j c := by simp [rowO]
    rw [e2]
    refine ⟨by rw [List.length_set]; exact hs.1, fun j' h3 h4 => ?_⟩
    have h4' : j' < p'.chs[i].length := by simpa using h4
    by_cases e3 : j = j'
    · subst e3
      rw [List.getElem_set_self]
      exact hc
    · rw [List.getElem_set_ne e3]
      exact hs.2 j' h3 h4'
  · have e2 : (rowO p' i (p'.chs[i].set j c)).chs[i'] = p'.chs[i'] := by simp only [rowO]; rw [List.getElem_set_ne e]
    rw [e2]
    exact hs
end
theorem SimM.wt {l l' : List MvO} (h : SimM l l') {n : Nat} (hn : n < l'.length) {x : Int} (hx : 1 ≤ x) : SimM l (l'.set n ⟨l'[n].to, x⟩) := by
  refine ⟨?_, fun m hm => ?_⟩
  · have : (l'.set n ⟨l'[n].to, x⟩).map MvO.to = l'.map MvO.to := by
      apply List.ext_getElem (by simp)
      intro i h1 h2
      rw [List.getElem_map, List.getElem_map, List.getElem_set]
      split
      · rename_i e; subst e; rfl
      · rfl
    rw [this]
    exact h.1
  · rcases List.mem_or_eq_of_mem_set hm with hm | rfl
    · exact h.2 m hm
    · exact hx
theorem swap_perm {α : Type} {l : List α} (h : 1 < l.length) : ((l.set 0 (l[l.length - 1]'(by omega))).set (l.length - 1) (l[0]'(by omega))).Perm l := by
  cases l with
  | nil => simp at h
  | cons a r =>
    have hr : r ≠ [] := by rintro rfl; simp at h
    obtain ⟨m, b, rfl⟩ : ∃ m b, r = m ++ [b] := ⟨r.dropLast, r.getLast hr, (List.dropLast_concat_getLast hr).symm⟩
    have e1 : (a :: (m ++ [b])).length - 1 = m.length + 1 := by simp
    have e2 : (a :: (m ++ [b]))[(a :: (m ++ [b])).length - 1]'(by simp) = b := by simp
    rw [e2]
    have e3 : ((a :: (m ++ [b])).set 0 b).set ((a :: (m ++ [b])).length - 1) ((a :: (m ++ [b]))[0]'(by simp)) = b :: (m ++ [a]) := by
      rw [e1]; simp
    rw [e3]
    exact (List.perm_append_comm (l₁ := [b]) (l₂ := m ++ [a])).trans ((List.append_assoc m [a] [b] ▸ (List.perm_append_comm (l₁ := m) (l₂ := [a, b]) : (m ++ ([a] ++ [b])).Perm ([a, b] ++ m))).trans ((List.perm_append_comm (l₁ := [b]) (l₂ := m)).cons a))
theorem SimM.swap {l l' : List MvO} (h : SimM l l') (hn : 1 < l'.length) : SimM l ((l'.set 0 (l'[l'.length - 1]'(by omega))).set (l'.length - 1) (l'[0]'(by omega))) := by
  have hp := swap_perm hn
  exact ⟨(hp.map _).trans h.1, fun m hm => h.2 m (hp.mem_iff.1 hm)⟩
/-- Processes that are not alike: another row of choices in one state. -/
theorem alike_row {p : PrO} {i : Nat} (hi : i < p.chs.length) {cs : List ChO} (h : keys p.chs[i] ≠ keys cs) : ¬ alikeO p (rowO p i cs) := fun ha => by
  have h1 := eqk_no ha.2.2.2 i hi (by simp [rowO]; exact hi)
  have e : (rowO p i cs).chs[i]'(by simp [rowO]; exact hi) = cs := by simp [rowO]
  rw [e] at h1
  exact h h1
theorem keys_act {cs : List ChO} {j : Nat} (hj : j < cs.length) {a : ByteArray} (ha : a ≠ cs[j].act) : keys cs ≠ keys (cs.set j ⟨a, cs[j].mv⟩) := fun h => by
  have h1 := eqk_no h j hj (by simpa using hj)
  rw [List.getElem_set_self] at h1
  exact ha (congrArg Prod.fst h1).symm
theorem keys_mv {cs : List ChO} {j : Nat} (hj : j < cs.length) {l : List MvO} (hl : l.length ≠ cs[j].mv.length) : keys cs ≠ keys (cs.set j ⟨cs[j].act, l⟩) := fun h => by
  have h1 := eqk_no h j hj (by simpa using hj)
  rw [List.getElem_set_self] at h1
  have h2 : srt cs[j].mv = srt l := congrArg Prod.snd h1
  have h3 := congrArg List.length h2
  rw [srt_len, srt_len] at h3
  exact hl h3.symm
theorem keys_len {cs cs' : List ChO} (h : cs'.length ≠ cs.length) : keys cs ≠ keys cs' := fun e => h (eqk_len e).symm
theorem act_more (a b : ByteArray) (hb : 0 < b.size) : a ++ b ≠ a := fun h => by
  have := congrArg ByteArray.size h
  rw [ByteArray.size_append] at this
  omega
end Go.Proofs.YtkgjpimapfmeoaaDoor
