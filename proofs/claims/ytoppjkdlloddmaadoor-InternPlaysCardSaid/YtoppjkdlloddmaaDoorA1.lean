/-
  alive, the chapter's example as every law asks it first, answers true; nothing that was there is changed.
-/
import Derived.Test.YtoppjkdlloddmaaDoorL7
namespace Go.Proofs.YtoppjkdlloddmaaDoor
open Go.RowKit

theorem reads_two (w : World) (x y : Int) : R32 (w.alloc (.cells #[.int .i32 x, .int .i32 y] 21)) (.slice (some ⟨w.heap.size, 0, none⟩) 2 2) [x, y] := by
  refine ⟨_, _, rfl, ?_⟩
  intro k hk
  refine ⟨_, rfl, rfl, ?_⟩
  have hk2 : k < 2 := hk
  match k, hk2 with
  | 0, _ => simp
  | 1, _ => simp
  | k + 2, h => omega
theorem vok_two (w : World) (x y : Value) (b B : Nat) : Vok (w.alloc (.cells #[x, y] 21)) b B (.slice (some ⟨w.heap.size, 0, none⟩) 2 2) := by
  intro a n c he _
  injection he with e1
  injection e1 with e2
  subst e2
  exact .inr ⟨_, heap_alloc_new w _⟩
theorem tab_alloc {w : World} {B b : Nat} {vs : List (List Int)} (h : Tab w B b vs) (o : Obj) : Tab (w.alloc o) B b vs := h.below ((Below.refl _ _).alloc (Nat.le_refl _) _)

set_option maxHeartbeats 1000000 in
theorem alive_yes (w : World) : Calls Tryd.prog 4 #[] w fun e w' => e = .returned (.bool true) ∧ Below w.heap.size w w' := by
  go_enter Tryd.func4, Tryd.ntmps4
  go_wp2_with fail
  refine (new_any _).mono ?_
  rintro e w1 ⟨rfl, hw1⟩
  have HB1 := Lib.hid (show Below w.heap.size w w1 by rw [hw1]; exact (Below.refl _ _).alloc (Nat.le_refl _) _)
  have HT1 := Lib.hid (show Tab w1 w.heap.size w.heap.size [] from Tab.new (by rw [hw1]; exact heap_alloc_new w _))
  have hz1 : w.heap.size < w1.heap.size := by rw [hw1]; simp
  clear hw1
  generalize hb : w.heap.size = b at *
  have HB := Lib.hid hb
  clear hb
  go_wp2_with fail
  refine (put_any (tab_alloc HT1.out _) (reads_two w1 1 2) (vok_two w1 _ _ _ _) (by simp) (by simp) (by simp; omega)).mono ?_
  rintro e w2 ⟨hk2, hcase⟩
  rcases hcase with ⟨i, hi, _⟩ | ⟨_, rfl, hT2⟩
  · exact absurd hi (Nat.not_lt_zero i)
  have hz2 : w1.heap.size + 1 ≤ w2.heap.size := by have := hk2.size; simpa using this
  have HB2 := Lib.hid (hk2.below (HB1.out.alloc (by omega) _) (Nat.le_refl _) (Nat.le_refl _) (by simp; omega))
  have HT2 := Lib.hid hT2
  clear hk2 hT2
  go_wp2_with fail
  refine (put_any (tab_alloc HT2.out _) (reads_two w2 2 1) (vok_two w2 _ _ _ _) (by simp) (by simp) (by simp; omega)).mono ?_
  rintro e w3 ⟨hk3, hcase⟩
  rcases hcase with ⟨i, hi, he, _⟩ | ⟨_, rfl, hT3⟩
  · have h0 : i = 0 := by simpa using hi
    subst h0
    simp at he
  have hz3 : w2.heap.size + 1 ≤ w3.heap.size := by have := hk3.size; simpa using this
  have HB3 := Lib.hid (hk3.below (HB2.out.alloc (by omega) _) (Nat.le_refl _) (Nat.le_refl _) (by simp; omega))
  have HT3 := Lib.hid hT3
  clear hk3 hT3
  go_wp2_with fail
  refine (put_any (tab_alloc HT3.out _) (reads_two w3 1 2) (vok_two w3 _ _ _ _) (by simp) (by simp) (by simp; omega)).mono ?_
  rintro e w4 ⟨hk4, hcase⟩
  rcases hcase with ⟨i, hi, he, rfl, hT4⟩ | ⟨hno, _⟩
  · have h0 : i = 0 := by
      have h2 : i < 2 := by simpa using hi
      match i, h2 with
      | 0, _ => rfl
      | 1, _ => simp at he
    subst h0
    have HB4 := Lib.hid (hk4.below (HB3.out.alloc (by omega) _) (Nat.le_refl _) (Nat.le_refl _) (by simp; omega))
    clear hk4 hT4 he
    go_wp2_with fail
    go_ret
    exact ⟨rfl, by rw [HB.out]; exact HB4.out⟩
  · exact absurd rfl (hno 0 (by simp))
end Go.Proofs.YtoppjkdlloddmaaDoor
