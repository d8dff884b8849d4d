/-
  New, Count and Next: what they do to memory and what they answer, for each set that lies in memory, and for nil.
-/
import Derived.Test.YtmdmanhjgbpgoaaDoorS1
import Derived.Deep.OwnRows
namespace Go.Proofs.YtmdmanhjgbpgoaaDoor
open Go.RowKit

set_option maxHeartbeats 400000 in
theorem new_no (i : Int) (w : World) (h : i < 0 ∨ 4096 < i) :
    Calls Tryd.prog 28 #[.int .i64 i] w fun e w' => e = .returned (.tuple #[.pointer none, .iface 56 (.int .i64 1)]) ∧ w' = w := by
  by_cases h0 : i < 0
  · clear h
    go_enter Tryd.func28, Tryd.ntmps28
    go_wp2
    go_ret2
    exact ⟨rfl, rfl⟩
  · have h1 : 4096 < i := by omega
    have h2 : decide (i < 0) = false := by simp; omega
    clear h
    go_enter Tryd.func28, Tryd.ntmps28
    go_wp2
    go_ret2
    exact ⟨rfl, rfl⟩

theorem info60 : (Tryd.prog.info? 60).map (fun i => (i.zero, i.size, i.bytes)) = some (some (.int .u64 0), 1, 8) := by kernel_rfl

/-- The world behind New. -/
def newW (w : World) (n : Nat) : World := (w.alloc (.cells (madeCells #[.int .u64 0] ((n + 63) / 64)) 60)).alloc (.cells #[.int .i64 (n : Int), .slice (some ⟨w.heap.size, 0, none⟩) ((n + 63) / 64) ((n + 63) / 64)] 64)

set_option maxHeartbeats 400000 in
theorem new_yes (n : Nat) (w : World) (h : n ≤ 4096) :
    Calls Tryd.prog 28 #[.int .i64 (n : Int)] w fun e w' => e = .returned (.tuple #[.pointer (some ⟨w.heap.size + 1, 0, none⟩), .nilIface]) ∧ w' = newW w n := by
  unfold newW
  generalize hm : (n + 63) / 64 = m
  have h2 : decide ((n : Int) < 0) = false := by simp
  have h3 : decide ((4096 : Int) < (n : Int)) = false := by simp; omega
  have h5 : ((n : Int) + 64 - 1) / 64 = (m : Int) := by omega
  have h6 : m ≤ 64 := by omega
  have hmk := run_make_row' (P := Tryd.prog) 62 60 (.int .u64 0) 8 Tryd.underlying62 info60 rfl .i64 .i64 m (by omega) (by omega)
  clear hm
  go_enter Tryd.func28, Tryd.ntmps28
  go_wp2_with fail
  go_ret2
  exact ⟨rfl, rfl⟩

theorem newW_size (w : World) (n : Nat) : (newW w n).heap.size = w.heap.size + 2 := by simp [newW]
theorem newW_below (w : World) (n : Nat) : Below w.heap.size w (newW w n) := ((Below.refl _ _).alloc (Nat.le_refl _) _).alloc (by simp) _
theorem mem_zero (k i : Nat) : mem (List.replicate k 0) i = false := by
  unfold mem
  rw [List.getD_eq_getElem?_getD, List.getElem?_replicate]
  split <;> simp
theorem new_set (w : World) (n : Nat) (h : n ≤ 4096) : SetF (newW w n) (w.heap.size + 1) w.heap.size n (fun _ => false) := by
  refine ⟨List.replicate ((n + 63) / 64) 0, ⟨by omega, h, by simp, ?_, ?_, (n + 63) / 64, madeCells #[.int .u64 0] ((n + 63) / 64), ?_, ?_, by simp, ?_, ?_, ?_⟩, mem_zero _⟩
  · intro k
    rw [List.getD_eq_getElem?_getD, List.getElem?_replicate]
    split <;> simp
  · intro i hi; rw [mem_zero] at hi; cases hi
  · have := heap_alloc_new (w.alloc (.cells (madeCells #[.int .u64 0] ((n + 63) / 64)) 60)) (.cells #[.int .i64 (n : Int), .slice (some ⟨w.heap.size, 0, none⟩) ((n + 63) / 64) ((n + 63) / 64)] 64)
    simpa [newW] using this
  · rw [newW, Below.heap_alloc _ _ _ (by simp)]; exact heap_alloc_new _ _
  · unfold maxLen; omega
  · exact size_madeCells _ _
  · intro k hk
    simp only [List.length_replicate] at hk
    rw [List.getD_eq_getElem?_getD, List.getElem?_replicate]
    simp [madeCells, W64, hk, Nat.mod_one]

/-! ### Count -/
set_option maxHeartbeats 400000 in
theorem count_nil (w : World) :
    Calls Tryd.prog 22 #[.pointer none] w fun e w' => e = .returned (.int .i64 0) ∧ w' = w := by
  go_enter Tryd.func22, Tryd.ntmps22
  go_wp2
  go_ret
  exact ⟨rfl, rfl⟩

def psum (ws : List Nat) (k : Nat) : Nat := ((ws.take k).map pop).sum
theorem psum_succ (ws : List Nat) (k : Nat) (h : k < ws.length) : psum ws (k + 1) = psum ws k + pop (ws.getD k 0) := by
  unfold psum
  rw [List.take_succ_eq_append_getElem h, List.map_append, List.sum_append]
  simp [List.getD_eq_getElem?_getD, List.getElem?_eq_getElem h]
theorem psum_le (ws : List Nat) : ∀ k, psum ws k ≤ 64 * k := by
  intro k
  induction k with
  | zero => simp [psum]
  | succ k ih =>
    by_cases h : k < ws.length
    · rw [psum_succ ws k h]; have := pop_le (ws.getD k 0); omega
    · have : psum ws (k + 1) = psum ws k := by unfold psum; rw [List.take_of_length_le (by omega), List.take_of_length_le (by omega)]
      omega

set_option maxHeartbeats 400000 in
theorem count_at {w : World} {b c size : Nat} {ws : List Nat} (h : SetAt w b c size ws) :
    Calls Tryd.prog 22 #[.pointer (some ⟨b, 0, none⟩)] w fun e w' => e = .returned (.int .i64 ((psum ws ws.length : Nat) : Int)) ∧ w' = w := by
  obtain ⟨cap, hs, hcap, _⟩ := h.cslice
  have hl : ws.length ≤ 64 := by have := h.len; have := h.le; omega
  have HW := Lib.hid h
  clear h
  go_enter Tryd.func22, Tryd.ntmps22
  go_wp2
  go_loop [3, 13] (fun n i => ∃ k : Nat, k ≤ ws.length ∧ i = .int .i64 (k : Int) ∧ n = .int .i64 ((psum ws k : Nat) : Int)) (fun _ i => ws.length - (intOf i).toNat)
  case atStart => exact ⟨0, Nat.zero_le _, rfl, rfl⟩
  case round =>
    obtain ⟨k, hk, rfl, rfl⟩ := hrel
    by_cases hlt : k < ws.length
    · have hcell := HW.out.cword k hlt
      have hps := psum_succ ws k hlt
      have hpl := psum_le ws k
      have hpp := pop_le (ws.getD k 0)
      have HX := HW.out.lt k
      generalize ws.getD k 0 = x at *
      have HP := Lib.hid hps
      clear hps
      generalize hpk : psum ws k = pk at *
      have HPK := Lib.hid hpk
      clear hpk
      go_wp2_with (go_at_call 40; refine (ones_any x _ HX).mono ?_; rintro e w' ⟨rfl, rfl⟩)
      go_round
      case rel => exact ⟨k + 1, by omega, by go_num, by rw [HP.out]; go_num⟩
      case measure => simp [intOf]; omega
    · have hd : decide (k < ws.length) = false := by simp; omega
      go_wp2
      go_ret
      exact ⟨ret_int (by rw [show k = ws.length by omega]), rfl⟩

theorem popN_count : ∀ k x : Nat, popN k x = (List.range k).countP (fun i => x.testBit i) := by
  intro k
  induction k with
  | zero => intro x; simp [popN]
  | succ k ih =>
    intro x
    rw [List.range_succ_eq_map, List.countP_cons, List.countP_map, popN, ih (x / 2)]
    have e1 : (List.range k).countP ((fun i => x.testBit i) ∘ Nat.succ) = (List.range k).countP (fun i => (x / 2).testBit i) := by
      apply List.countP_congr
      intro a _
      simp [Nat.testBit_succ]
    rw [e1, Nat.add_comm]
    congr 1
    rw [Nat.testBit_zero]
    rcases Nat.mod_two_eq_zero_or_one x with h | h <;> simp [h]
theorem psum_count (ws : List Nat) : ∀ k, k ≤ ws.length → psum ws k = (List.range (64 * k)).countP (mem ws) := by
  intro k
  induction k with
  | zero => intro _; simp [psum]
  | succ k ih =>
    intro h
    have e : (List.range 64).countP (mem ws ∘ fun x => 64 * k + x) = pop (ws.getD k 0) := by
      unfold pop
      rw [popN_count]
      apply List.countP_congr
      intro i hi
      have : i < 64 := List.mem_range.1 hi
      simp only [Function.comp, mem]
      rw [show (64 * k + i) / 64 = k by omega, show (64 * k + i) % 64 = i by omega]
    rw [psum_succ ws k (by omega), ih (by omega), show 64 * (k + 1) = 64 * k + 64 by omega, List.range_add, List.countP_append, List.countP_map, e]
theorem count_its {w : World} {b c size : Nat} {ws : List Nat} (h : SetAt w b c size ws) : psum ws ws.length = (its size (mem ws)).length := by
  rw [psum_count ws _ (Nat.le_refl _), its, ← List.countP_eq_length_filter]
  obtain ⟨d, hd⟩ : ∃ d, 64 * ws.length = size + d := ⟨64 * ws.length - size, by have := h.len; omega⟩
  rw [hd, List.range_add, List.countP_append, List.countP_map]
  have : (List.range d).countP (mem ws ∘ fun x => size + x) = 0 := by
    rw [List.countP_eq_zero]
    intro a _ hm
    have : size + a < size := h.room _ hm
    omega
  rw [this, Nat.add_zero]
theorem its_congr {size : Nat} {f g : Nat → Bool} (h : ∀ i, f i = g i) : its size f = its size g := by
  rw [show f = g from funext h]
theorem its_le (size : Nat) (f : Nat → Bool) : (its size f).length ≤ size := by
  have := List.length_filter_le f (List.range size); simpa [its] using this
theorem count_set {w : World} {b c size : Nat} {f : Nat → Bool} (h : SetF w b c size f) :
    Calls Tryd.prog 22 #[.pointer (some ⟨b, 0, none⟩)] w fun e w' => e = .returned (.int .i64 (((its size f).length : Nat) : Int)) ∧ w' = w := by
  obtain ⟨ws, hw, hm⟩ := h
  have := count_at hw
  rw [count_its hw, its_congr hm] at this
  exact this
end Go.Proofs.YtmdmanhjgbpgoaaDoor
