/-
  The document's ranks: walked.
-/
import Derived.Test.YtddeplbgihcdkaaGreatDoorD0
import Derived.Test.YtddeplbgihcdkaaGreatDoorXC
namespace Go.Proofs.YtddeplbgihcdkaaGreatDoor
open Go.RowKit Go.Sort

def InRel (x : List UInt8) (l : List (List UInt8)) (i : Value) : Prop := ∃ k : Nat, i = .int .i64 (k : Int) ∧ k ≤ l.length ∧ x ∉ l.take k
def InP (b : Bool) (w : World) (e : Ending) (w' : World) : Prop := e = .returned (.bool b) ∧ w = w'
set_option maxHeartbeats 1000000 in
theorem rin_any (s : ByteArray) (l : List (List UInt8)) (g cap : Nat) (w : World) (h : w.heap[g]? = some (.cells (l.map strV).toArray 9 (0, 0))) (hl : l.length ≤ 100) : Calls Tryz.prog 122 #[.string s, .slice (some ⟨g, 0, none⟩) l.length cap] w (InP (decide (s.data.toList ∈ l)) w) := by
  obtain ⟨n, hn⟩ : ∃ n, n = l.length := ⟨_, rfl⟩
  have HC := Lib.hid (fun (k : Nat) (hk : k < n) => sign_cell h (k := k) (by omega))
  have HN := Lib.hid hn
  rw [← hn] at hl ⊢
  clear h hn
  go_enter Tryz.func122, Tryz.ntmps122
  go_wp2
  go_loop [5] (fun i => InRel s.data.toList l i) (fun i => n - (intOf i).toNat)
  case atStart => exact ⟨0, rfl, Nat.zero_le _, by simp⟩
  case round =>
    obtain ⟨k, rfl, hk, ht⟩ := hrel
    rw [← HN.out] at hk
    by_cases hlt : k < n
    · have g2 : decide ((k : Int) < (n : Int)) = true := by simp; omega
      have g3 : decide (k < n) = true := by simpa using hlt
      have hc := HC.out k hlt
      have kl : k < l.length := by rw [← HN.out]; exact hlt
      obtain ⟨tb, htb⟩ : ∃ tb : ByteArray, tb = ⟨(l.getD k []).toArray⟩ := ⟨_, rfl⟩
      rw [← htb] at hc
      have hq : (tb.toList == s.toList) = decide (l[k] = s.data.toList) := by
        rw [htb, ByteArray.toList_eq, ByteArray.toList_eq]
        simp [Bool.beq_eq_decide_eq, List.getElem?_eq_getElem kl]
      have HT := Lib.hid (show l.take (k + 1) = l.take k ++ [l[k]] from List.take_succ_eq_append_getElem kl)
      by_cases he : l[k] = s.data.toList
      · rw [decide_eq_true he] at hq
        have HR := Lib.hid (show s.data.toList ∈ l by rw [← he]; exact List.getElem_mem kl)
        clear he ht htb HC
        go_wp2
        go_ret
        exact ⟨ret_bool (decide_eq_true HR.out).symm, rfl⟩
      · rw [decide_eq_false he] at hq
        have HR := Lib.hid (show InRel s.data.toList l (.int .i64 ((k : Int) + 1)) from ⟨k + 1, by go_num, kl, by rw [HT.out]; simp only [List.mem_append, List.mem_singleton, not_or]; exact ⟨ht, fun e => he e.symm⟩⟩)
        clear he ht htb
        go_wp2
        go_round
        case rel => exact HR.out
        case measure => simp [intOf]; omega
    · have g2 : decide ((k : Int) < (n : Int)) = false := by simp; omega
      have g3 : decide (k < n) = false := by simpa using hlt
      have HR := Lib.hid (show s.data.toList ∉ l by rw [List.take_of_length_le (by rw [← HN.out]; omega)] at ht; exact ht)
      clear ht
      go_wp2
      go_ret
      exact ⟨ret_bool (decide_eq_false HR.out).symm, rfl⟩
/-- The table of ranks in memory. -/
def RkM (w : World) (L : Nat) : Prop := ∀ j, j < 9 → ∃ g, w.cell? ⟨L, j, none⟩ = some (.slice (some ⟨g, 0, none⟩) (rkL j).length (rkL j).length) ∧ w.heap[g]? = some (.cells ((rkL j).map strV).toArray 9 (0, 0))
theorem heap_old {w : World} {k : Nat} {o : Obj} (h : w.heap[k]? = some o) (o' : Obj) : (w.alloc o').heap[k]? = some o := (Below.heap_alloc w o' k (blk_lt h)).trans h
def RkRel (x : List UInt8) (L : Nat) (w : World) (i : Value) (wr : World) : Prop := ∃ k : Nat, i = .int .i64 (k : Int) ∧ k ≤ 9 ∧ k ≤ rk x ∧ RkM wr L ∧ Below w.heap.size w wr
def RrP (k : Nat) (w : World) (e : Ending) (w' : World) : Prop := e = .returned (.int .i64 (k : Int)) ∧ Below w.heap.size w w'
set_option maxHeartbeats 2000000 in
theorem rrank_any (s : ByteArray) (w : World) : Calls Tryz.prog 75 #[.string s] w (RrP (rk s.data.toList) w) := by
  have HLE := Lib.hid (rk_le s.data.toList)
  have HMEM := Lib.hid (fun (k : Nat) (hk : k < 9) => rk_mem s.data.toList k hk)
  go_enter Tryz.func75, Tryz.ntmps75
  go_wp2
  go_loopw [4] (fun i wr => RkRel s.data.toList (w.heap.size + 9) w i wr) (fun i _ => 9 - (intOf i).toNat)
  case atStart =>
    refine ⟨0, rfl, by omega, Nat.zero_le _, ?_, ?_⟩
    · intro j hj
      have : j = 0 ∨ j = 1 ∨ j = 2 ∨ j = 3 ∨ j = 4 ∨ j = 5 ∨ j = 6 ∨ j = 7 ∨ j = 8 := by omega
      rcases this with rfl | rfl | rfl | rfl | rfl | rfl | rfl | rfl | rfl
      · exact ⟨w.heap.size, (rd_cell (heapN (by simp) _) 0).trans rfl, by repeat (first | exact heapN (by simp) _ | refine heap_old ?_ _)⟩
      · exact ⟨w.heap.size + 1, (rd_cell (heapN (by simp) _) 1).trans rfl, by repeat (first | exact heapN (by simp) _ | refine heap_old ?_ _)⟩
      · exact ⟨w.heap.size + 2, (rd_cell (heapN (by simp) _) 2).trans rfl, by repeat (first | exact heapN (by simp) _ | refine heap_old ?_ _)⟩
      · exact ⟨w.heap.size + 3, (rd_cell (heapN (by simp) _) 3).trans rfl, by repeat (first | exact heapN (by simp) _ | refine heap_old ?_ _)⟩
      · exact ⟨w.heap.size + 4, (rd_cell (heapN (by simp) _) 4).trans rfl, by repeat (first | exact heapN (by simp) _ | refine heap_old ?_ _)⟩
      · exact ⟨w.heap.size + 5, (rd_cell (heapN (by simp) _) 5).trans rfl, by repeat (first | exact heapN (by simp) _ | refine heap_old ?_ _)⟩
      · exact ⟨w.heap.size + 6, (rd_cell (heapN (by simp) _) 6).trans rfl, by repeat (first | exact heapN (by simp) _ | refine heap_old ?_ _)⟩
      · exact ⟨w.heap.size + 7, (rd_cell (heapN (by simp) _) 7).trans rfl, by repeat (first | exact heapN (by simp) _ | refine heap_old ?_ _)⟩
      · exact ⟨w.heap.size + 8, (rd_cell (heapN (by simp) _) 8).trans rfl, by repeat (first | exact heapN (by simp) _ | refine heap_old ?_ _)⟩
    · repeat (first | exact Below.refl _ _ | refine Below.alloc ?_ (by simp; try omega) _)
  case round =>
    obtain ⟨k, rfl, hk, hle, hM, hb⟩ := hrel
    by_cases hlt : k < 9
    · have g2 : decide ((k : Int) < 9) = true := by simp; omega
      obtain ⟨g, hc, hg⟩ := hM k hlt
      have H := Lib.hid (rin_any s (rkL k) g (rkL k).length wr hg (by
        have : k = 0 ∨ k = 1 ∨ k = 2 ∨ k = 3 ∨ k = 4 ∨ k = 5 ∨ k = 6 ∨ k = 7 ∨ k = 8 := by omega
        rcases this with rfl | rfl | rfl | rfl | rfl | rfl | rfl | rfl | rfl <;> decide))
      have HM := Lib.hid hM
      have HB := Lib.hid hb
      generalize (rkL k).length = nk at *
      by_cases he : s.data.toList ∈ rkL k
      · rw [decide_eq_true he] at H
        have HR := Lib.hid ((HMEM.out k hlt).1 he)
        clear he hM hb hg
        go_wp2_with fail
        with_reducible refine (H.out).mono ?_
        rintro e w' ⟨rfl, rfl⟩
        go_wp2
        go_ret
        exact ⟨ret_int (by rw [HR.out]), HB.out⟩
      · rw [decide_eq_false he] at H
        have HR := Lib.hid (show k ≠ rk s.data.toList from fun e => he ((HMEM.out k hlt).2 e.symm))
        clear he hM hb hg
        go_wp2_with fail
        with_reducible refine (H.out).mono ?_
        rintro e w' ⟨rfl, rfl⟩
        go_wp2
        go_roundw
        case rel => exact ⟨k + 1, by go_num, by omega, by have := HR.out; omega, HM.out, HB.out⟩
        case measure => simp [intOf]; omega
    · have g2 : decide ((k : Int) < 9) = false := by simp; omega
      have HR := Lib.hid (show rk s.data.toList = 9 by have := HLE.out; omega)
      have HB := Lib.hid hb
      clear hM hb
      go_wp2
      go_ret
      exact ⟨ret_int (by rw [HR.out]; rfl), HB.out⟩
end Go.Proofs.YtddeplbgihcdkaaGreatDoor
