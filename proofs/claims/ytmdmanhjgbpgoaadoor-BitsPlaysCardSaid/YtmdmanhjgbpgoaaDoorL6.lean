/-
  Items: what a set has, rising, in a slice of the call's own; for each set in memory, and for nil.
-/
import Derived.Test.YtmdmanhjgbpgoaaDoorS2
namespace Go.Proofs.YtmdmanhjgbpgoaaDoor
open Go.RowKit

theorem its_step (f : Nat → Bool) (m k : Nat) (hk : f k = true) (hm : m ≤ k) (hb : ∀ j, m ≤ j → j < k → f j = false) : its (k + 1) f = its m f ++ [k] := by
  obtain ⟨d, rfl⟩ := Nat.exists_eq_add_of_le hm
  unfold its
  rw [List.range_succ, List.range_add, List.filter_append, List.filter_append]
  have : ((List.range d).map (m + ·)).filter f = [] := by
    rw [List.filter_eq_nil_iff]
    intro a ha
    obtain ⟨x, hx, rfl⟩ := List.mem_map.1 ha
    have := List.mem_range.1 hx
    rw [hb _ (by omega) (by omega)]; simp
  rw [this]; simp [hk]
theorem its_none (f : Nat → Bool) (m n : Nat) (hm : m ≤ n) (hb : ∀ j, m ≤ j → f j = false) : its n f = its m f := by
  obtain ⟨d, rfl⟩ := Nat.exists_eq_add_of_le hm
  unfold its
  rw [List.range_add, List.filter_append]
  have : ((List.range d).map (m + ·)).filter f = [] := by
    rw [List.filter_eq_nil_iff]
    intro a ha
    obtain ⟨x, hx, rfl⟩ := List.mem_map.1 ha
    rw [hb _ (by omega)]; simp
  rw [this]; simp

def I64 (x : Nat) : Value := .int .i64 (x : Int)
/-- What Next answered, from m on. -/
def NextIs (f : Nat → Bool) (m : Nat) (i o : Value) : Prop :=
  (∃ k : Nat, i = .int .i64 (k : Int) ∧ o = .bool true ∧ f k = true ∧ m ≤ k ∧ ∀ j, m ≤ j → j < k → f j = false) ∨ (i = .int .i64 0 ∧ o = .bool false ∧ ∀ j, m ≤ j → f j = false)
def okM (size : Nat) (i o : Value) : Nat := match o with | .bool true => size + 1 - (intOf i).toNat | _ => 0
theorem info3 : (Tryd.prog.info? 3).map (fun i => (i.zero, i.size, i.bytes)) = some (some (.int .i64 0), 1, 8) := by kernel_rfl

theorem tab_of {w w' : World} (h : Tab w) (hb : w'.heap[1]? = w.heap[1]?) : Tab w' := fun j hj => (World.cell?_of_block (w := w) (a := ⟨1, j, none⟩) hb).trans (h j hj)
theorem tab_lt {w : World} (h : Tab w) : 1 < w.heap.size := World.block_lt_of_cell? w _ (h 0 (by omega))
theorem tab_below {w w' : World} (h : Tab w) (hb : Below w.heap.size w w') : Tab w' := tab_of h (hb.block 1 (tab_lt h))

/-- What Items hands back. -/
def ItemsF (size : Nat) (f : Nat → Bool) (w : World) (e : Ending) (w' : World) : Prop :=
  ∃ v, e = .returned v ∧ w'.ownsRow w.heap.size 3 1 v (its size f).length ((its size f).map I64) ∧ Below w.heap.size w w'
def ItemsRel (size : Nat) (f : Nat → Bool) (w : World) (v i o : Value) (wr : World) : Prop :=
  ∃ m : Nat, m ≤ size ∧ wr.ownsRow w.heap.size 3 1 v (its m f).length ((its m f).map I64) ∧ Below w.heap.size w wr ∧ NextIs f m i o

theorem nextF_is {f : Nat → Bool} {m : Nat} {w w' : World} {e : Ending} (h : NextF f m w e w') : ∃ i o n, e = .returned (.tuple #[i, o]) ∧ NextIs f m i o ∧ w' = w.drewN n := by
  obtain ⟨h | h, n, hw⟩ := h
  · obtain ⟨k, h1, h2, h3, rfl⟩ := h
    exact ⟨_, _, n, rfl, .inl ⟨k, rfl, rfl, h1, h2, h3⟩, hw⟩
  · obtain ⟨h1, rfl⟩ := h
    exact ⟨_, _, n, rfl, .inr ⟨rfl, rfl, h1⟩, hw⟩
theorem below_drewN {B : Nat} {a w : World} (h : Below B a w) (n : Nat) : Below B a (w.drewN n) := ⟨h.os, h.tape, h.output, h.size, h.block⟩
theorem owns_drewN {w : World} {base : Nat} {e : TypeId} {size : Nat} {v : Value} {n : Nat} {xs : List Value} (h : w.ownsRow base e size v n xs) (k : Nat) : (w.drewN k).ownsRow base e size v n xs := h

set_option maxHeartbeats 400000 in
theorem items_set {w : World} {b c size : Nat} {f : Nat → Bool} (h : SetF w b c size f) (ht : Tab w) :
    Calls Tryd.prog 27 #[.pointer (some ⟨b, 0, none⟩)] w (ItemsF size f w) := by
  obtain ⟨i0, hi0, hz⟩ := Option.map_eq_some_iff.1 info3
  simp only [Prod.mk.injEq] at hz
  obtain ⟨hz0, hz1, hz2⟩ := hz
  have HZ0 := Lib.hid hz0
  have HZ1 := Lib.hid hz1
  have HZ2 := Lib.hid hz2
  have HI := Lib.hid hi0
  have hsz : size ≤ 4096 := by obtain ⟨ws, hw, _⟩ := h; exact hw.le
  have HS := Lib.hid h
  have HT := Lib.hid ht
  have hlen := its_le size f
  clear hz0 hz1 hz2 hi0 h ht
  go_enter Tryd.func27, Tryd.ntmps27
  go_wp2_with fail
  refine (count_set HS.out).mono ?_
  rintro e w1 ⟨rfl, hw1⟩
  rw [hw1]
  clear hw1 w1
  go_wp2_with (refine wpList_make_own _ rfl _ _ 22 rfl w.heap.size 3 i0 (.int .i64 0) 1 Tryd.underlying22 HI.out HZ0.out HZ1.out .i64 .i64 _ (its size f).length rfl rfl rfl (by rw [HZ2.out]; omega) (by unfold maxLen; omega) (Nat.le_refl _) ?_)
  intro w1 hown hgrow
  have hb1 : Below w.heap.size w w1 := (Below.refl _ _).grown hgrow (Nat.le_refl _) (fun _ h => by cases h)
  have HB1 := Lib.hid hb1
  go_wp2_with fail
  refine (next_set (HS.out.below HB1.out) (tab_below HT.out HB1.out) _).mono ?_
  intro e w2 hn
  obtain ⟨i1, o1, n1, rfl, hnx, rfl⟩ := nextF_is hn
  have HN := Lib.hid hnx
  have HO := Lib.hid hown
  clear hn hnx hown hgrow hb1
  go_wp2
  go_loopw [3, 4, 5] (fun v i o wr => ItemsRel size f w v i o wr) (fun _ i o _ => okM size i o)
  case atStart => exact ⟨0, Nat.zero_le _, owns_drewN HO.out _, below_drewN HB1.out _, HN.out⟩
  case round =>
    obtain ⟨m, hm, hown, hbel, hnx⟩ := hrel
    have HB := Lib.hid hbel
    have HO := Lib.hid hown
    have hbs := hbel.size
    clear hbel
    have hlm := its_le m f
    have hksz : ∀ k, f k = true → k < size := HS.out.out
    rcases hnx with ⟨k, rfl, rfl, hk1, hk2, hk3⟩ | ⟨rfl, rfl, hk⟩
    · have hks := hksz k hk1
      have HK1 := Lib.hid hk1
      have HK3 := Lib.hid hk3
      clear hk1 hk3 hksz
      go_wp2_with (at_builtin; refine wpList_append_own _ rfl _ _ 22 rfl w.heap.size 3 i0 (.int .i64 0) 1 8 Tryd.underlying22 HI.out HZ0.out HZ1.out HZ2.out rfl (by decide) _ _ _ rfl (HO.out.alloc _) ⟨wr.heap.size, 0, none⟩ 1 1 [.int .i64 (k : Int)] rfl rfl ?c1 ?c2 ?c3 ?c4 ?c5 ?_)
      case c1 =>
        intro j u hj
        match j, hj with
        | 0, hj => simp at hj; subst hj; simp [Addr.add]
      case c2 => intro u hu; simp at hu; subst hu; rfl
      case c3 => unfold maxLen; omega
      case c4 => omega
      case c5 => simp; omega
      intro v' w3 hown' hgrow _
      have hb3 : Below w.heap.size w w3 := (HB.out.alloc hbs _).grown hgrow (by simp; omega) (fun _ h => (HO.out.lt _ h).1)
      have HB3 := Lib.hid hb3
      have HO3 := Lib.hid hown'
      clear hb3 hown' hgrow hown
      go_wp2_with fail
      refine (next_set (HS.out.below HB3.out) (tab_below HT.out HB3.out) _).mono ?_
      intro e w2 hn
      obtain ⟨i2, o2, n2, rfl, hnx, rfl⟩ := nextF_is hn
      have HN := Lib.hid hnx
      clear hn hnx
      go_wp2
      go_roundw
      case rel =>
        have e := its_step f m k HK1.out hk2 HK3.out
        have e2 : ((k : Int) + 1).toNat = k + 1 := by omega
        refine ⟨k + 1, by omega, ?_, below_drewN HB3.out _, ?_⟩
        · rw [e, List.length_append, List.map_append]; exact owns_drewN HO3.out _
        · rw [← e2]; exact HN.out
      case measure =>
        have e2 : ((k : Int) + 1).toNat = k + 1 := by omega
        have hx := HN.out
        rw [e2] at hx
        rcases hx with ⟨k2, rfl, rfl, h1, h2, h3⟩ | ⟨rfl, rfl, h1⟩
        · have := HS.out.out k2 h1
          simp only [okM, intOf]; omega
        · simp only [okM, intOf]; omega
    · go_wp2
      go_ret
      refine ⟨_, rfl, ?_, HB.out⟩
      rw [its_none f m size hm hk]
      exact HO.out

set_option maxHeartbeats 400000 in
theorem items_nil (w : World) :
    Calls Tryd.prog 27 #[.pointer none] w fun e w' => (∃ v, e = .returned v ∧ w'.ownsRow w.heap.size 3 1 v 0 []) ∧ Below w.heap.size w w' := by
  obtain ⟨i0, hi0, hz⟩ := Option.map_eq_some_iff.1 info3
  simp only [Prod.mk.injEq] at hz
  obtain ⟨hz0, hz1, hz2⟩ := hz
  have HZ0 := Lib.hid hz0
  have HZ1 := Lib.hid hz1
  have HZ2 := Lib.hid hz2
  have HI := Lib.hid hi0
  clear hz0 hz1 hz2 hi0
  go_enter Tryd.func27, Tryd.ntmps27
  go_wp2_with fail
  refine (count_nil _).mono ?_
  rintro e w1 ⟨rfl, hw1⟩
  rw [hw1]
  clear hw1 w1
  go_wp2_with (refine wpList_make_own _ rfl _ _ 22 rfl w.heap.size 3 i0 (.int .i64 0) 1 Tryd.underlying22 HI.out HZ0.out HZ1.out .i64 .i64 _ 0 rfl rfl rfl (by rw [HZ2.out]; omega) (by unfold maxLen; omega) (Nat.le_refl _) ?_)
  intro w1 hown hgrow
  have HB1 := Lib.hid (show Below w.heap.size w w1 from (Below.refl _ _).grown hgrow (Nat.le_refl _) (fun _ h => by cases h))
  have HO := Lib.hid hown
  clear hown hgrow
  go_wp2_with fail
  refine (next_nil _ _).mono ?_
  rintro e w2 ⟨rfl, hw2⟩
  rw [hw2]
  clear hw2 w2
  go_wp2
  refine wp_loop_rounds 1 ?_
  rw [rounds_succ]
  go_wp2
  go_ret
  exact ⟨⟨_, rfl, HO.out⟩, HB1.out⟩
end Go.Proofs.YtmdmanhjgbpgoaaDoor
