/-
  What can be come to; Reach, walked.
-/
import Derived.Test.YtkgjpimapfmeoaaDoorM6
import Derived.Test.YtkgjpimapfmeoaaDoorM9
import Derived.Deep.LoopGhost
namespace Go.Proofs.YtkgjpimapfmeoaaDoor
open Go.RowKit

/-- A way from one state to another, by some choice. -/
def Edg (p : PrO) (s t : Nat) : Prop := ∃ cs, p.chs[s]? = some cs ∧ ∃ c ∈ cs, ∃ m ∈ c.mv, m.to = (t : Int)
inductive Rch (p : PrO) : Nat → Prop
  | init : Rch p p.init.toNat
  | step {s t : Nat} : Rch p s → Edg p s t → Rch p t
open Classical in
noncomputable def rchB (p : PrO) (s : Nat) : Bool := decide (Rch p s)
open Classical in
theorem rchB_yes {p : PrO} {s : Nat} (h : Rch p s) : rchB p s = true := by unfold rchB; exact decide_eq_true h
open Classical in
theorem rchB_no {p : PrO} {s : Nat} (h : ¬ Rch p s) : rchB p s = false := by unfold rchB; exact decide_eq_false h
open Classical in
/-- The states that can be come to, rising. -/
noncomputable def reachO (p : PrO) : List Int := if p.right then marks (rchB p) p.chs.length else []
theorem right_to {p : PrO} (h : p.right) {s t : Nat} (he : Edg p s t) : t < p.chs.length := by
  obtain ⟨cs, h1, c, h2, m, h3, h4⟩ := he
  have h5 := ((h.2.2.2.2.1 cs (List.mem_of_getElem? h1)).2 c h2).2.2 m h3
  omega
theorem rch_lt {p : PrO} (h : p.right) {s : Nat} (hr : Rch p s) : s < p.chs.length := by
  cases hr with
  | init => have := h.2.2.1; omega
  | step _ he => exact right_to h he
/-- How many are not yet marked. -/
def uns (f : Nat → Bool) : Nat → Nat
  | 0 => 0
  | n + 1 => uns f n + if f n then 0 else 1
def upd (f : Nat → Bool) (t : Nat) : Nat → Bool := fun j => if t = j then true else f j
theorem upd_at (f : Nat → Bool) (t : Nat) : upd f t t = true := if_pos rfl
theorem upd_mono {f : Nat → Bool} {t s : Nat} (h : f s = true) : upd f t s = true := by
  unfold upd
  split
  · rfl
  · exact h
theorem upd_inv {f : Nat → Bool} {t s : Nat} (h : upd f t s = true) : s = t ∨ f s = true := by
  unfold upd at h
  split at h
  · exact .inl (by omega)
  · exact .inr h
theorem uns_le (f : Nat → Bool) : ∀ n, uns f n ≤ n
  | 0 => Nat.le_refl _
  | n + 1 => by
    have := uns_le f n
    rw [uns]
    split <;> omega
theorem uns_out {f : Nat → Bool} {t : Nat} : ∀ {n : Nat}, n ≤ t → uns (upd f t) n = uns f n
  | 0, _ => rfl
  | n + 1, h => by
    rw [uns, uns, uns_out (by omega)]
    have : upd f t n = f n := if_neg (by omega)
    rw [this]
theorem uns_upd {f : Nat → Bool} {t : Nat} (hf : f t = false) : ∀ {n : Nat}, t < n → uns (upd f t) n + 1 = uns f n
  | 0, h => absurd h (by omega)
  | n + 1, h => by
    rw [uns, uns]
    by_cases e : t = n
    · subst e
      rw [uns_out (Nat.le_refl _), upd_at, hf]
      simp
    · have := uns_upd hf (n := n) (by omega)
      have h2 : upd f t n = f n := if_neg e
      rw [h2]
      omega
/-- What holds where the search takes its next state. -/
structure Dfs (p : PrO) (f : Nat → Bool) (st : List Int) : Prop where
  init : f p.init.toNat = true
  come : ∀ s, s < p.chs.length → f s = true → Rch p s
  on : ∀ x ∈ st, ∃ s : Nat, x = (s : Int) ∧ s < p.chs.length ∧ f s = true
  done : ∀ s, s < p.chs.length → f s = true → (s : Int) ∈ st ∨ ∀ t, Edg p s t → f t = true
/-- What holds while the choices of one state are followed: those ahead of the j-th, and k moves of this. -/
structure DfsIn (p : PrO) (s : Nat) (cs : List ChO) (f : Nat → Bool) (st : List Int) (j k : Nat) : Prop where
  init : f p.init.toNat = true
  come : ∀ s, s < p.chs.length → f s = true → Rch p s
  on : ∀ x ∈ st, ∃ s : Nat, x = (s : Int) ∧ s < p.chs.length ∧ f s = true
  done : ∀ r, r < p.chs.length → f r = true → r = s ∨ (r : Int) ∈ st ∨ ∀ t, Edg p r t → f t = true
  at_ : f s = true
  past : ∀ i (h : i < cs.length), i < j → ∀ m ∈ cs[i].mv, ∀ t : Nat, m.to = (t : Int) → f t = true
  now : ∀ (h : j < cs.length), ∀ m ∈ cs[j].mv.take k, ∀ t : Nat, m.to = (t : Int) → f t = true
section
variable {p : PrO} {f : Nat → Bool} {st : List Int} {s : Nat} {cs : List ChO} {j k : Nat}
theorem Dfs.enter (h : Dfs p f (st ++ [(s : Int)])) : DfsIn p s cs f st 0 0 where
  init := h.init
  come := h.come
  on := fun x hx => h.on x (by simp [hx])
  done := fun r hr hf => by
    rcases h.done r hr hf with h1 | h1
    · rw [List.mem_append, List.mem_singleton] at h1
      rcases h1 with h1 | h1
      · exact .inr (.inl h1)
      · exact .inl (by omega)
    · exact .inr (.inr h1)
  at_ := by
    obtain ⟨r, h1, _, h2⟩ := h.on (s : Int) (by simp)
    have : s = r := by omega
    rw [this]; exact h2
  past := fun i _ hi => absurd hi (by omega)
  now := fun _ m hm => absurd hm (by simp)
theorem DfsIn.leave (h : DfsIn p s cs f st j k) (hs : p.chs[s]? = some cs) (hj : cs.length ≤ j) : Dfs p f st where
  init := h.init
  come := h.come
  on := h.on
  done := fun r hr hf => by
    rcases h.done r hr hf with rfl | h1 | h1
    · right
      rintro t ⟨cs', h2, c, h3, m, h4, h5⟩
      rw [hs] at h2
      injection h2 with h2
      subst h2
      obtain ⟨i, hi, rfl⟩ := List.mem_iff_getElem.1 h3
      exact h.past i hi (by omega) m h4 t h5
    · exact .inl h1
    · exact .inr h1
theorem DfsIn.next (h : DfsIn p s cs f st j k) (hj : j < cs.length) (hk : cs[j].mv.length ≤ k) : DfsIn p s cs f st (j + 1) 0 where
  init := h.init
  come := h.come
  on := h.on
  done := h.done
  at_ := h.at_
  past := fun i hi hij m hm t ht => by
    by_cases e : i = j
    · subst e
      exact h.now hi m (by rw [List.take_of_length_le hk]; exact hm) t ht
    · exact h.past i hi (by omega) m hm t ht
  now := fun _ m hm => absurd hm (by simp)
theorem DfsIn.skip (h : DfsIn p s cs f st j k) (hj : j < cs.length) (hk : k < cs[j].mv.length) {t : Nat} (ht : cs[j].mv[k].to = (t : Int)) (hf : f t = true) : DfsIn p s cs f st j (k + 1) where
  init := h.init
  come := h.come
  on := h.on
  done := h.done
  at_ := h.at_
  past := h.past
  now := fun _ m hm t' ht' => by
    rw [take_snoc hk, List.mem_append, List.mem_singleton] at hm
    rcases hm with hm | hm
    · exact h.now hj m hm t' ht'
    · subst hm
      have : t' = t := by omega
      rw [this]; exact hf
theorem DfsIn.mark (h : DfsIn p s cs f st j k) (hs : p.chs[s]? = some cs) (hsl : s < p.chs.length) (hj : j < cs.length) (hk : k < cs[j].mv.length) {t : Nat} (ht : cs[j].mv[k].to = (t : Int)) (htl : t < p.chs.length) : DfsIn p s cs (upd f t) (st ++ [(t : Int)]) j (k + 1) where
  init := upd_mono h.init
  come := fun r hr hf => by
    rcases upd_inv hf with rfl | hf
    · exact .step (h.come s hsl h.at_) ⟨cs, hs, cs[j], List.getElem_mem hj, cs[j].mv[k], List.getElem_mem hk, ht⟩
    · exact h.come r hr hf
  on := fun x hx => by
    rw [List.mem_append, List.mem_singleton] at hx
    rcases hx with hx | hx
    · obtain ⟨r, h1, h2, h3⟩ := h.on x hx
      exact ⟨r, h1, h2, upd_mono h3⟩
    · exact ⟨t, hx, htl, upd_at f t⟩
  done := fun r hr hf => by
    rcases upd_inv hf with rfl | hf
    · exact .inr (.inl (by simp))
    · rcases h.done r hr hf with h1 | h1 | h1
      · exact .inl h1
      · exact .inr (.inl (by simp [h1]))
      · exact .inr (.inr fun t' ht' => upd_mono (h1 t' ht'))
  at_ := upd_mono h.at_
  past := fun i hi hij m hm t' ht' => upd_mono (h.past i hi hij m hm t' ht')
  now := fun _ m hm t' ht' => by
    rw [take_snoc hk, List.mem_append, List.mem_singleton] at hm
    rcases hm with hm | hm
    · exact upd_mono (h.now hj m hm t' ht')
    · subst hm
      have : t' = t := by omega
      rw [this]; exact upd_at f t
theorem Dfs.all (h : Dfs p f []) (hr : p.right) : marks f p.chs.length = reachO p := by
  rw [reachO, if_pos hr]
  refine marks_congr fun s hs => ?_
  have hall : ∀ r, Rch p r → f r = true := by
    intro r hrr
    induction hrr with
    | init => exact h.init
    | step h1 h2 ih =>
      rcases h.done _ (rch_lt hr h1) ih with h3 | h3
      · exact absurd h3 (by simp)
      · exact h3 _ h2
  by_cases e : Rch p s
  · rw [rchB_yes e]; exact hall s e
  · rw [rchB_no e]
    cases hf : f s with
    | true => exact absurd (h.come s hs hf) e
    | false => rfl
theorem Dfs.start {n : Nat} (h : p.right) (hi : p.init = (n : Int)) : Dfs p (upd (fun _ => false) n) [(n : Int)] := by
  have h0 := h.2.2.1
  have hn : p.init.toNat = n := by omega
  refine ⟨by rw [hn]; exact upd_at _ _, fun s _ hf => ?_, fun x hx => ?_, fun s _ hf => ?_⟩
  · rcases upd_inv hf with rfl | hf
    · rw [← hn]; exact .init
    · cases hf
  · simp only [List.mem_singleton] at hx
    exact ⟨n, hx, by omega, upd_at _ _⟩
  · rcases upd_inv hf with rfl | hf
    · exact .inl (by simp)
    · cases hf
end
end Go.Proofs.YtkgjpimapfmeoaaDoor
