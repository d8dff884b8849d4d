/-
  Num and Pos of every error that the program makes.
-/
import Derived.Test.YtfemddchaihokaaDoorE6
namespace Go.Proofs.YtfemddchaihokaaDoor
open Go.RowKit

/-- An error at a place, in memory. -/
structure AtE (w : World) (b : Nat) (p n : Int) : Prop where
  pos : w.cell? ⟨b, 0, none⟩ = some (.int .i64 p)
  err : w.cell? ⟨b, 1, none⟩ = some (.iface 55 (.int .i64 n))
theorem AtE.lt {w : World} {b : Nat} {p n : Int} (h : AtE w b p n) : b < w.heap.size := World.block_lt_of_cell? w _ h.pos
theorem AtE.below {w w' : World} {b : Nat} {p n : Int} (h : AtE w b p n) (hb : Below w.heap.size w w') : AtE w' b p n :=
  ⟨(hb.cell (p := ⟨b, 0, none⟩) h.lt).trans h.pos, (hb.cell (p := ⟨b, 1, none⟩) h.lt).trans h.err⟩

set_option maxHeartbeats 1000000 in
theorem num_at (b : Nat) (p n : Int) (w : World) (hG : Glob w) (hA : AtE w b p n) : Calls Tryd.prog 12 #[.iface 60 (.pointer (some ⟨b, 0, none⟩))] w fun e w' => e = .returned (.int .i64 n) ∧ Below w.heap.size w w' := by
  have hlt := hA.lt
  have hb0 : Below w.heap.size w (w.alloc (.cells #[.int .i64 0] 55)) := (Below.refl _ _).alloc (Nat.le_refl _) _
  have hc := (hA.below hb0).err
  have H := Lib.hid (as_errno 60 (.pointer (some ⟨b, 0, none⟩)) ⟨w.heap.size, 0, none⟩ true _ (w.alloc (.cells #[.int .i64 0] 55)) (hG.below hb0).err
    (asin_at b n ⟨w.heap.size, 0, none⟩ ⟨(w.alloc (.cells #[.int .i64 0] 55)).heap.size, 0, none⟩ (.iface 67 (.pointer (some ⟨w.heap.size, 0, none⟩))) (.int .i64 0) _
      (by rw [World.cell?_alloc_lt _ _ _ (by simp; omega), World.cell?_alloc_lt _ _ _ (by simp; omega)]; exact hc)
      (by rw [World.cell?_alloc_lt _ _ _ (by simp)]; simp)
      (by rw [World.cell?_alloc_lt _ _ _ (by simp; omega), World.cell?_alloc_lt _ _ _ (by simp)]; simp)
      (by rw [World.frozen?_alloc_old _ _ _ (by simp; omega), World.frozen?_alloc_old _ _ _ (by simp)]; simp)))
  clear hb0 hc hA hG
  go_enter Tryd.func12, Tryd.ntmps12
  go_wp2_with fail
  with_reducible refine (H.out).mono ?_
  rintro e w' ⟨rfl, rfl⟩
  go_wp2
  go_ret
  refine ⟨rfl, ?_⟩
  exact (((((Below.refl _ _).alloc (Nat.le_refl _) _).alloc (by simp) _).alloc (by simp; omega) _).alloc (by simp; omega) _).alloc (by simp; omega) _

set_option maxHeartbeats 1000000 in
theorem pos_at (b : Nat) (p n : Int) (w : World) (hG : Glob w) (hA : AtE w b p n) : Calls Tryd.prog 13 #[.iface 60 (.pointer (some ⟨b, 0, none⟩))] w fun e w' => e = .returned (.int .i64 p) ∧ Below w.heap.size w w' := by
  have hlt := hA.lt
  have hb0 : Below w.heap.size w (w.alloc (.cells #[.pointer none] 60)) := (Below.refl _ _).alloc (Nat.le_refl _) _
  have hc := hA.pos
  have H := Lib.hid (as_place 60 (.pointer (some ⟨b, 0, none⟩)) ⟨w.heap.size, 0, none⟩ true _ (w.alloc (.cells #[.pointer none] 60)) (hG.below hb0).err
    (asin_place ⟨b, 0, none⟩ ⟨w.heap.size, 0, none⟩ ⟨(w.alloc (.cells #[.pointer none] 60)).heap.size, 0, none⟩ (.iface 68 (.pointer (some ⟨w.heap.size, 0, none⟩))) (.pointer none) _
      (by rw [World.cell?_alloc_lt _ _ _ (by simp)]; simp)
      (by rw [World.cell?_alloc_lt _ _ _ (by simp; omega), World.cell?_alloc_lt _ _ _ (by simp)]; simp)
      (by rw [World.frozen?_alloc_old _ _ _ (by simp; omega), World.frozen?_alloc_old _ _ _ (by simp)]; simp)))
  have HA := Lib.hid hA
  clear hb0 hA hG hc
  go_enter Tryd.func13, Tryd.ntmps13
  go_wp2_with fail
  with_reducible refine (H.out).mono ?_
  rintro e w' ⟨rfl, hw⟩
  have hb : Below w.heap.size w w' := by
    rw [hw]
    exact ((((((Below.refl _ _).alloc (Nat.le_refl _) _).alloc (by simp) _).alloc (by simp; omega) _).alloc (by simp; omega) _).alloc (by simp; omega) _).setCell (by simp) _
  have h1 : w'.cell? ⟨w.heap.size, 0, none⟩ = some (.pointer (some ⟨b, 0, none⟩)) := by
    rw [hw]
    refine World.cell?_setCell_same _ _ _ (u := .pointer none) ?_
    rw [World.cell?_alloc_lt _ _ _ (by simp; omega), World.cell?_alloc_lt _ _ _ (by simp; omega), World.cell?_alloc_lt _ _ _ (by simp; omega), World.cell?_alloc_lt _ _ _ (by simp)]; simp
  have h2 := (HA.out.below hb).pos
  have HB := Lib.hid hb
  clear hw hb
  go_wp2
  go_ret
  exact ⟨rfl, HB.out⟩

set_option maxHeartbeats 1000000 in
theorem pos_errno (n : Int) (w : World) (hG : Glob w) : Calls Tryd.prog 13 #[.iface 55 (.int .i64 n)] w fun e w' => e = .returned (.int .i64 (-1)) ∧ Below w.heap.size w w' := by
  have hb0 : Below w.heap.size w (w.alloc (.cells #[.pointer none] 60)) := (Below.refl _ _).alloc (Nat.le_refl _) _
  have H := Lib.hid (as_place 55 (.int .i64 n) ⟨w.heap.size, 0, none⟩ false _ (w.alloc (.cells #[.pointer none] 60)) (hG.below hb0).err
    (asin_none n ⟨(w.alloc (.cells #[.pointer none] 60)).heap.size, 0, none⟩ (.iface 68 (.pointer (some ⟨w.heap.size, 0, none⟩))) _))
  clear hb0 hG
  go_enter Tryd.func13, Tryd.ntmps13
  go_wp2_with fail
  with_reducible refine (H.out).mono ?_
  rintro e w' ⟨rfl, rfl⟩
  go_wp2
  go_ret
  refine ⟨rfl, ?_⟩
  exact ((((Below.refl _ _).alloc (Nat.le_refl _) _).alloc (by simp) _).alloc (by simp; omega) _).alloc (by simp; omega) _

theorem pos_nil (w : World) : Calls Tryd.prog 13 #[.nilIface] w fun e w' => e = .returned (.int .i64 (-1)) ∧ Below w.heap.size w w' := by
  go_enter Tryd.func13, Tryd.ntmps13
  go_wp2
  go_ret
  exact ⟨rfl, (Below.refl _ _).alloc (Nat.le_refl _) _⟩
end Go.Proofs.YtfemddchaihokaaDoor
