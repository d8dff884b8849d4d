/-
  alive, the chapter's example as every law asks it first, answers true; nothing that was there is changed.
-/
import Derived.Test.YtmdmanhjgbpgoaaDoorA3
namespace Go.Proofs.YtmdmanhjgbpgoaaDoor
open Go.RowKit

theorem reads_two (w : World) (x y : Int) : Reads (w.alloc (.cells #[.int .i64 x, .int .i64 y] 3)) (.slice (some ⟨w.heap.size, 0, none⟩) 2 2) [x, y] := by
  refine ⟨_, _, rfl, ?_⟩
  intro k hk
  refine ⟨_, rfl, rfl, ?_⟩
  have hk2 : k < 2 := hk
  match k, hk2 with
  | 0, _ => simp
  | 1, _ => simp
  | k + 2, h => omega

theorem its_alive : its 5 (hasL [3, 1]) = [1, 3] := by decide
theorem memI_alive : memI (addF (hasL [3, 1]) 5 4) 4 = true := by decide
theorem memI_alive' : (decide ((0 : Int) ≤ 4 ∧ (4 : Int) < ((5 : Nat) : Int)) && !memI (hasL [3, 1]) 4) = true := by decide

set_option maxHeartbeats 1000000 in
theorem alive_yes (w : World) (hG : Glob w) : Calls Tryd.prog 8 #[] w fun e w' => e = .returned (.bool true) ∧ Below w.heap.size w w' := by
  have HG := Lib.hid hG
  clear hG
  go_enter Tryd.func8, Tryd.ntmps8
  go_wp2_with fail
  refine (of_set 5 (by omega) (reads_two w 3 1) (by simp)).mono ?_
  intro e w1 h1
  obtain ⟨hb1, h1 | h1⟩ := h1
  · obtain ⟨_, rfl, hset⟩ := h1
    have hb1' : Below w.heap.size w w1 := ((Below.refl _ _).alloc (Nat.le_refl _) _).trans (hb1.mono (by simp))
    have hz1 : (w.alloc (.cells #[.int .i64 3, .int .i64 1] 3)).heap.size ≤ w1.heap.size := hb1.size
    have HB1 := Lib.hid hb1'
    have HS := Lib.hid hset
    clear hb1 hb1' hset
    simp only [World.size_alloc] at hz1 HS
    go_wp2_with fail
    refine (new_no (-1) _ (by omega)).mono ?_
    rintro e w2 ⟨rfl, hw2⟩
    rw [hw2]
    clear hw2 w2
    go_wp2_with fail
    refine (items_set HS.out (tab_below HG.out.tab HB1.out)).mono ?_
    rintro e w2 ⟨v, rfl, hown, hb2⟩
    have HB2 := Lib.hid hb2
    have HO := Lib.hid hown
    have hz2 := hb2.size
    clear hb2 hown
    rw [its_alive] at HO
    have HR := Lib.hid (Reads.of_owns (xs := [1, 3]) HO.out)
    clear HO
    go_wp2_with fail
    refine (ints_set (HR.out.below ((Below.refl _ _).alloc (Nat.le_refl _) _)) (reads_two w2 1 3) (by simp) (by simp)).mono ?_
    rintro e w3 ⟨rfl, n3, rfl⟩
    have HD := Lib.hid (show decide (([1, 3] : List Nat).map (fun x : Nat => (x : Int)) = [1, 3]) = true by decide)
    rw [HD.out]
    have HB3 := Lib.hid (show Below w1.heap.size w1 ((w2.alloc (.cells #[.int .i64 1, .int .i64 3] 3)).drewN n3) from below_drewN (HB2.out.alloc hz2 _) n3)
    have hz3 := HB3.out.size
    generalize (w2.alloc (.cells #[.int .i64 1, .int .i64 3] 3)).drewN n3 = w3 at *
    go_wp2_with fail
    refine (num_errno 1 _ (HG.out.below (HB1.out.trans (HB3.out.mono (by omega))))).mono ?_
    rintro e w4 ⟨rfl, hb4⟩
    have HB4 := Lib.hid (HB3.out.trans (hb4.mono hz3))
    clear hb4
    have hz4 := HB4.out.size
    go_wp2_with fail
    refine (add_set (HS.out.below HB4.out) _).mono ?_
    rintro e w5 ⟨rfl, ho, hset⟩
    rw [memI_alive']
    have HO5 := Lib.hid ho
    have HS5 := Lib.hid hset
    clear ho hset
    go_wp2_with fail
    refine (has_set HS5.out _).mono ?_
    rintro e w6 ⟨rfl, n6, rfl⟩
    rw [memI_alive]
    go_wp2
    go_ret
    refine ⟨rfl, below_drewN (below_only (HB1.out.trans (HB4.out.mono (by omega))) HO5.out (by omega) (by omega)) _⟩
  · exact absurd (show Within 5 [3, 1] from fun x hx => by simp at hx; omega) h1.1
end Go.Proofs.YtmdmanhjgbpgoaaDoor
