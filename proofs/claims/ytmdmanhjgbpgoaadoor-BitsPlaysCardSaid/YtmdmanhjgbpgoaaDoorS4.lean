/-
  Same by what two sets have; New at any number; slices of bytes as they are read; how many two sets have together.
-/
import Derived.Test.YtmdmanhjgbpgoaaDoorL9
namespace Go.Proofs.YtmdmanhjgbpgoaaDoor
open Go.RowKit

theorem chgF_false {size : Nat} {f g : Nat → Bool} : chgF size f g = false ↔ ∀ j, j < size → f j = g j := by
  unfold chgF
  rw [List.any_eq_false]
  constructor
  · intro h j hj
    have := h j (List.mem_range.2 hj)
    simpa using this
  · intro h j hj
    have := h j (List.mem_range.1 hj)
    simp [this]
theorem chgF_self (size : Nat) (f : Nat → Bool) : chgF size f f = false := chgF_false.2 fun _ _ => rfl

theorem same_set {w : World} {b c size b' c' size' : Nat} {f g : Nat → Bool} (h : SetF w b c size f) (h' : SetF w b' c' size' g) :
    Calls Tryd.prog 30 #[.pointer (some ⟨b, 0, none⟩), .pointer (some ⟨b', 0, none⟩)] w fun e w' => e = .returned (.bool (decide (size = size') && !chgF size f g)) ∧ ∃ n, w' = w.drewN n := by
  have hf := h.out
  have hg := h'.out
  obtain ⟨ws, hw, hm⟩ := h
  obtain ⟨vs, hv, hn⟩ := h'
  have e : (decide (size = size') && decide (ws = vs)) = (decide (size = size') && !chgF size f g) := by
    by_cases hs : size = size'
    · subst hs
      simp only [decide_true, Bool.true_and]
      rw [Bool.eq_iff_iff, decide_eq_true_iff, Bool.not_eq_true', chgF_false]
      constructor
      · rintro rfl j _
        rw [← hm, ← hn]
      · intro he
        refine words_ext hw hv fun i => ?_
        rw [hm, hn]
        by_cases hi : i < size
        · exact he i hi
        · have a : f i = false := by cases hx : f i with
            | false => rfl
            | true => exact absurd (hf i hx) hi
          have b : g i = false := by cases hx : g i with
            | false => rfl
            | true => exact absurd (hg i hx) hi
          rw [a, b]
    · simp [hs]
  rw [← e]
  exact same_at hw hv

theorem new_int (i : Int) (w : World) (h0 : 0 ≤ i) (h1 : i ≤ 4096) :
    Calls Tryd.prog 28 #[.int .i64 i] w fun e w' => e = .returned (.tuple #[.pointer (some ⟨w.heap.size + 1, 0, none⟩), .nilIface]) ∧ w' = newW w i.toNat := by
  obtain ⟨n, rfl⟩ := Int.eq_ofNat_of_zero_le h0
  exact new_yes n w (by omega)

/-- A slice of bytes reads as this list. -/
def Reads8 (w : World) (v : Value) (xs : List Int) : Prop :=
  ∃ ad cap, v = .slice ad xs.length cap ∧ (∀ k, k < xs.length → ∃ p, ad = some p ∧ p.spot = none ∧ w.cell? ⟨p.block, p.off + k, none⟩ = some (.int .u8 (xs.getD k 0))) ∧ ∀ k, 0 ≤ xs.getD k 0 ∧ xs.getD k 0 ≤ 255
theorem Reads8.below {w w' : World} {v : Value} {xs : List Int} (h : Reads8 w v xs) (hb : Below w.heap.size w w') : Reads8 w' v xs := by
  obtain ⟨ad, cap, rfl, h2, h3⟩ := h
  refine ⟨ad, cap, rfl, fun k hk => ?_, h3⟩
  obtain ⟨p, rfl, hp, hc⟩ := h2 k hk
  exact ⟨p, rfl, hp, (hb.cell (p := ⟨p.block, p.off + k, none⟩) (World.block_lt_of_cell? w _ hc)).trans hc⟩

theorem its_length (size : Nat) (f : Nat → Bool) : (its size f).length = (List.range size).countP f := by
  unfold its; rw [List.countP_eq_length_filter]
theorem count_two (l : List Nat) (f g u m : Nat → Bool) (hu : ∀ j ∈ l, u j = (f j || g j)) (hm : ∀ j ∈ l, m j = (f j && g j)) : l.countP u + l.countP m = l.countP f + l.countP g := by
  induction l with
  | nil => simp
  | cons a l ih =>
    have ih' := ih (fun j hj => hu j (List.mem_cons_of_mem _ hj)) (fun j hj => hm j (List.mem_cons_of_mem _ hj))
    have h1 := hu a List.mem_cons_self
    have h2 := hm a List.mem_cons_self
    simp only [List.countP_cons, h1, h2]
    cases f a <;> cases g a <;> simp <;> omega
theorem its_two (size : Nat) (f g u m : Nat → Bool) (hu : ∀ j, j < size → u j = (f j || g j)) (hm : ∀ j, j < size → m j = (f j && g j)) : (its size u).length + (its size m).length = (its size f).length + (its size g).length := by
  simp only [its_length]
  exact count_two _ f g u m (fun j hj => hu j (List.mem_range.1 hj)) (fun j hj => hm j (List.mem_range.1 hj))
end Go.Proofs.YtmdmanhjgbpgoaaDoor
