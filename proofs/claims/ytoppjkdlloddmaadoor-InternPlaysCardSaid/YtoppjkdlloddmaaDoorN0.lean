/-
  Arguments that are vectors, or lists of vectors; what a table has after some were put; Find by whether the vector is there.
-/
import Derived.Test.YtoppjkdlloddmaaDoorA1
namespace Go.Proofs.YtoppjkdlloddmaaDoor
open Go.RowKit

/-- A slice of slices of 32-bit numbers reads as this list. -/
def RL (w : World) (v : Value) (ls : List (List Int)) : Prop :=
  ∃ ad cap, v = .slice ad ls.length cap ∧ ∀ k, k < ls.length → ∃ p u, ad = some p ∧ p.spot = none ∧ w.cell? ⟨p.block, p.off + k, none⟩ = some u ∧ R32 w u (ls.getD k []) ∧ (ls.getD k []).length ≤ 9223372036854775807
theorem RL.below {w w' : World} {v : Value} {ls : List (List Int)} (h : RL w v ls) (hb : Below w.heap.size w w') : RL w' v ls := by
  obtain ⟨ad, cap, rfl, h2⟩ := h
  refine ⟨ad, cap, rfl, fun k hk => ?_⟩
  obtain ⟨p, u, rfl, hp, hc, hr, hl⟩ := h2 k hk
  exact ⟨p, u, rfl, hp, (hb.cell (p := ⟨p.block, p.off + k, none⟩) (World.block_lt_of_cell? w _ hc)).trans hc, hr.below hb, hl⟩
/-- One of them, as a walk takes it. -/
def One (w0 w : World) (pb po k : Nat) (u : Value) (ys : List Int) : Prop := w.cell? ⟨pb, po + k, none⟩ = some u ∧ R32 w0 u ys ∧ ys.length ≤ 9223372036854775807
theorem vok_old {w0 w : World} {b B : Nat} {v : Value} {xs : List Int} (h : R32 w0 v xs) (h1 : w0.heap.size ≤ b) (h2 : w0.heap.size ≤ B) : Vok w b B v := by
  obtain ⟨ad, cap, rfl, h3⟩ := h
  intro a n c he hn
  injection he with e1 e2
  obtain ⟨p, hp, _, hc⟩ := h3 0 (by omega)
  have hlt := World.block_lt_of_cell? w0 _ hc
  rw [e1] at hp
  injection hp with hp
  subst hp
  simp only at hlt
  exact .inl ⟨by omega, by omega⟩
theorem R32.len {w : World} {v : Value} {xs : List Int} (h : R32 w v xs) : ∃ ad cap, v = .slice ad xs.length cap := by
  obtain ⟨ad, cap, rfl, _⟩ := h
  exact ⟨ad, cap, rfl⟩

theorem getD_mem {vs : List (List Int)} {i : Nat} (h : i < vs.length) : vs.getD i [] ∈ vs := by
  rw [List.getD_eq_getElem?_getD, List.getElem?_eq_getElem h]; exact List.getElem_mem h
theorem mem_getD {vs : List (List Int)} {xs : List Int} (h : xs ∈ vs) : ∃ i, i < vs.length ∧ vs.getD i [] = xs := by
  obtain ⟨i, hi, he⟩ := List.getElem_of_mem h
  exact ⟨i, hi, by rw [List.getD_eq_getElem?_getD, List.getElem?_eq_getElem hi, Option.getD_some, he]⟩
theorem not_mem_getD {vs : List (List Int)} {xs : List Int} : (∀ j, j < vs.length → vs.getD j [] ≠ xs) ↔ xs ∉ vs := by
  constructor
  · intro h hm
    obtain ⟨i, hi, he⟩ := mem_getD hm
    exact h i hi he
  · intro h j hj he
    exact h (he ▸ getD_mem hj)
theorem take_snocL (ls : List (List Int)) (k : Nat) (h : k < ls.length) : ls.take (k + 1) = ls.take k ++ [ls.getD k []] := by
  rw [List.take_succ_eq_append_getElem h]
  simp [List.getD_eq_getElem?_getD, List.getElem?_eq_getElem h]
theorem nodup_inj {vs : List (List Int)} (h : vs.Nodup) {i j : Nat} (hi : i < vs.length) (hj : j < vs.length) (he : vs.getD i [] = vs.getD j []) : i = j := by
  rw [List.getD_eq_getElem?_getD, List.getElem?_eq_getElem hi, Option.getD_some, List.getD_eq_getElem?_getD, List.getElem?_eq_getElem hj, Option.getD_some] at he
  rcases Nat.lt_trichotomy i j with hij | hij | hij
  · exact absurd he (List.pairwise_iff_getElem.1 h i j hi hj hij)
  · exact hij
  · exact absurd he.symm (List.pairwise_iff_getElem.1 h j i hj hi hij)

/-- The table has just these. -/
def Has (vs ls : List (List Int)) : Prop := (∀ ys, ys ∈ vs ↔ ys ∈ ls) ∧ vs.length ≤ ls.length
theorem Has.nil : Has [] [] := ⟨fun _ => Iff.rfl, Nat.le_refl _⟩
theorem Has.old {vs ls : List (List Int)} {xs : List Int} (h : Has vs ls) (hm : xs ∈ vs) : Has vs (ls ++ [xs]) := by
  refine ⟨fun ys => ?_, by simp; have := h.2; omega⟩
  rw [List.mem_append, List.mem_singleton, ← h.1]
  constructor
  · exact .inl
  · rintro (h | rfl)
    · exact h
    · exact hm
theorem Has.new {vs ls : List (List Int)} (h : Has vs ls) (xs : List Int) : Has (vs ++ [xs]) (ls ++ [xs]) := by
  refine ⟨fun ys => ?_, by simp; have := h.2; omega⟩
  rw [List.mem_append, List.mem_append, h.1]

theorem Tab.nodup {w : World} {B b : Nat} {vs : List (List Int)} (h : Tab w B b vs) : vs.Nodup := by
  obtain ⟨m, ev, hv, vl, nx, hs, _, _, _, _, h1, _⟩ := h
  exact h1

/-- Find, by whether it is there. -/
def FindB (t : Bool) (w : World) (e : Ending) (w' : World) : Prop :=
  ∃ z : Int, e = .returned (.tuple #[.int .i64 z, .bool t]) ∧ ∃ n, w' = w.drewN n
theorem find_is {w : World} {B b : Nat} {vs : List (List Int)} {v : Value} {xs : List Int} (h : Tab w B b vs) (hv : R32 w v xs) (hx : xs.length ≤ 9223372036854775807) (hl : vs.length ≤ 1000) {t : Bool} (ht : t = true ↔ xs ∈ vs) :
    Calls Tryd.prog 7 #[.pointer (some ⟨b, 0, none⟩), v] w (FindB t w) := by
  refine (find_any h hv hx hl).mono ?_
  rintro e w' ⟨hf, hn⟩
  rcases hf with ⟨i, hi, he, rfl⟩ | ⟨hno, rfl⟩
  · have : t = true := ht.2 (he ▸ getD_mem hi)
    subst this
    exact ⟨_, rfl, hn⟩
  · have : t = false := by
      cases t with
      | false => rfl
      | true => exact absurd (ht.1 rfl) (not_mem_getD.1 hno)
    subst this
    exact ⟨_, rfl, hn⟩
end Go.Proofs.YtoppjkdlloddmaaDoor
