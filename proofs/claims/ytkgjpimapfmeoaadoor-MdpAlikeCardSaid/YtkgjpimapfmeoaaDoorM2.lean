/-
  isPlace, movesRight, walked.
-/
import Derived.Test.YtkgjpimapfmeoaaDoorM1
import Derived.Deep.LoopGhost
namespace Go.Proofs.YtkgjpimapfmeoaaDoor
open Go.RowKit

theorem place_any (i n : Int) (w : World) : Calls Tryd.prog 33 #[.int .i64 i, .int .i64 n] w fun e w' => e = .returned (.bool (decide (0 ≤ i ∧ i < n))) ∧ w' = w := by
  by_cases h1 : 0 ≤ i
  · have g1 : decide (0 ≤ i) = true := by simp; omega
    by_cases h2 : i < n
    · have g2 : decide (i < n) = true := by simp; omega
      have HR := Lib.hid (show true = decide (0 ≤ i ∧ i < n) by simp; omega)
      clear h1 h2
      go_enter Tryd.func33, Tryd.ntmps33
      go_wp2
      go_ret
      exact ⟨ret_bool HR.out, rfl⟩
    · have g2 : decide (i < n) = false := by simp; omega
      have HR := Lib.hid (show false = decide (0 ≤ i ∧ i < n) by simp; omega)
      clear h1 h2
      go_enter Tryd.func33, Tryd.ntmps33
      go_wp2
      go_ret
      exact ⟨ret_bool HR.out, rfl⟩
  · have g1 : decide (0 ≤ i) = false := by simp; omega
    have HR := Lib.hid (show false = decide (0 ≤ i ∧ i < n) by simp; omega)
    clear h1
    go_enter Tryd.func33, Tryd.ntmps33
    go_wp2
    go_ret
    exact ⟨ret_bool HR.out, rfl⟩

def iv (x : Int) : Value := .int .i64 x
/-- The marks: numbers in a block of one's own. -/
def La (w : World) (q n : Nat) (c : Int) (l : List Int) : Prop := Bx w q 3 (l.map iv) ∧ l.length = n ∧ ∀ t (h : t < l.length), l[t] ≤ c
theorem La.cell {w : World} {q n : Nat} {c : Int} {l : List Int} (h : La w q n c l) (t : Nat) (ht : t < l.length) : w.cell? ⟨q, t, none⟩ = some (.int .i64 l[t]) := by
  rw [h.1.cell t, List.getElem?_map, List.getElem?_eq_getElem ht]; rfl
/-- What marks say of moves that have been seen. -/
def Seen (num : Int) (l : List Int) (tos : List Int) : Prop := ∀ t (h : t < l.length), l[t] = num ↔ (t : Int) ∈ tos
def MvRel (l : List MvO) (n q : Nat) (num : Int) (w0 : World) (i : Value) (wr : World) : Prop :=
  ∃ (k : Nat) (ls : List Int), i = .int .i64 (k : Int) ∧ k ≤ l.length ∧ La wr q n num ls ∧ Seen num ls ((l.take k).map MvO.to) ∧ (∀ m ∈ l.take k, 0 ≤ m.to ∧ m.to < (n : Int) ∧ 1 ≤ m.wt) ∧ ((l.take k).map MvO.to).Nodup ∧ Below w0.heap.size w0 wr
def MvP (l : List MvO) (n q : Nat) (num : Int) (w0 : World) (e : Ending) (w' : World) : Prop :=
  e = .returned (.bool (decide (movR n l))) ∧ (∃ ls, La w' q n num ls) ∧ Below w0.heap.size w0 w'
theorem take_snoc {α : Type} {l : List α} {k : Nat} (h : k < l.length) : l.take (k + 1) = l.take k ++ [l[k]] := List.take_succ_eq_append_getElem h
theorem mov_no {l : List MvO} {n : Nat} {k : Nat} (hk : k < l.length) (h : ¬ (0 ≤ l[k].to ∧ l[k].to < (n : Int) ∧ 1 ≤ l[k].wt) ∨ l[k].to ∈ (l.take k).map MvO.to) : false = decide (movR n l) := by
  refine (decide_eq_false fun hm => ?_).symm
  rcases h with h | h
  · exact h (hm.2.2 _ (List.getElem_mem hk))
  · have h1 : ((l.take (k + 1)).map MvO.to).Nodup := by rw [List.map_take]; exact hm.2.1.sublist (List.take_sublist _ _)
    rw [take_snoc hk, List.map_append, List.nodup_append] at h1
    exact h1.2.2 _ h _ (by simp) rfl
theorem mov_yes {l : List MvO} {n : Nat} (h0 : 0 < l.length) (h1 : ∀ m ∈ l.take l.length, 0 ≤ m.to ∧ m.to < (n : Int) ∧ 1 ≤ m.wt) (h2 : ((l.take l.length).map MvO.to).Nodup) : true = decide (movR n l) := by
  rw [List.take_of_length_le (Nat.le_refl _)] at h1 h2
  exact (decide_eq_true ⟨List.length_pos_iff.1 h0, h2, h1⟩).symm
theorem mov_none {l : List MvO} {n : Nat} (h0 : l.length = 0) : false = decide (movR n l) := (decide_eq_false fun h => h.1 (List.eq_nil_of_length_eq_zero h0)).symm
theorem seen_step {num : Int} {ls : List Int} {l : List MvO} {k t : Nat} (hk : k < l.length) (ht : l[k].to = (t : Int)) (h : Seen num ls ((l.take k).map MvO.to)) : Seen num (ls.set t num) ((l.take (k + 1)).map MvO.to) := by
  intro j hj
  rw [List.length_set] at hj
  rw [take_snoc hk, List.map_append, List.mem_append, List.getElem_set]
  by_cases e : t = j
  · subst e; simp [ht]
  · rw [if_neg e, h j hj]
    simp [ht]
    omega
theorem la_step {w : World} {q n : Nat} {num : Int} {ls : List Int} {t : Nat} (h : La w q n num ls) : La (w.setCell ⟨q, t, none⟩ (.int .i64 num)) q n num (ls.set t num) := by
  refine ⟨?_, by rw [List.length_set]; exact h.2.1, fun j hj => ?_⟩
  · have := h.1.set t (.int .i64 num)
    rwa [show (ls.map iv).set t (.int .i64 num) = (ls.set t num).map iv by rw [List.map_set]; rfl] at this
  · rw [List.length_set] at hj
    rw [List.getElem_set]
    split
    · exact Int.le_refl _
    · exact h.2.2 j hj
set_option maxHeartbeats 2000000 in
theorem moves_any {w0 : World} {A : Option Addr} {l : List MvO} {cap n q N : Nat} {num : Int} {ls : List Int} (w : World) (hl : MSl w0 A l) (hlen : l.length ≤ 4611686018427387904) (hb : Below w0.heap.size w0 w) (hq : w0.heap.size ≤ q) (hA : La w q n (num - 1) ls) :
    Calls Tryd.prog 47 #[.slice A l.length cap, .slice (some ⟨q, 0, none⟩) n N, .int .i64 num] w (MvP l n q num w0) := by
  have HL := Lib.hid hl
  have HQ0 := Lib.hid (show La w q n num ls from ⟨hA.1, hA.2.1, fun t ht => by have := hA.2.2 t ht; omega⟩)
  have HS0 := Lib.hid (show Seen num ls [] from fun t ht => by have := hA.2.2 t ht; constructor; omega; simp)
  have HB0 := Lib.hid hb
  obtain ⟨L, hL⟩ : ∃ L, L = l.length := ⟨_, rfl⟩
  have HLN := Lib.hid hL
  rw [← hL] at hlen ⊢
  clear hl hA hb hL
  go_enter Tryd.func47, Tryd.ntmps47
  go_wp2
  go_loopw [8, 11] (fun _ i wr => MvRel l n q num w0 i wr) (fun _ i _ => L - (intOf i).toNat)
  case atStart => exact ⟨0, ls, rfl, Nat.zero_le _, HQ0.out, HS0.out, fun m hm => absurd hm (by simp), List.nodup_nil, HB0.out⟩
  case round =>
    obtain ⟨k, lk, rfl, hk, hla, hse, hgd, hnd, hb⟩ := hrel
    have HLA := Lib.hid hla
    have HSE := Lib.hid hse
    have HGD := Lib.hid hgd
    have HND := Lib.hid hnd
    have HB := Lib.hid hb
    have hzb := hb.size
    have hqz := hla.1.lt
    clear hla hse hgd hnd hb
    by_cases hlt : k < L
    · have d1 : decide (k < L) = true := by simp; omega
      have kk : k < l.length := by rw [← HLN.out]; exact hlt
      obtain ⟨g, o, rfl, c1, c2⟩ := HL.out.below HB.out k kk
      have HLL := Lib.hid HL
      clear HL
      obtain ⟨to, hto⟩ : ∃ to, to = l[k].to := ⟨_, rfl⟩
      obtain ⟨wt, hwt⟩ : ∃ wt, wt = l[k].wt := ⟨_, rfl⟩
      rw [← hto] at c1
      rw [← hwt] at c2
      have c2' := c2
      rw [← Nat.add_assoc] at c2'
      have HTO := Lib.hid hto
      have HWT := Lib.hid hwt
      clear hto hwt hk
      by_cases hp : 0 ≤ to ∧ to < (n : Int)
      · obtain ⟨t, rfl⟩ := Int.eq_ofNat_of_zero_le hp.1
        have ht : t < n := by omega
        have htl : t < lk.length := by rw [HLA.out.2.1]; exact ht
        have c3 := HLA.out.cell t htl
        obtain ⟨x, hx⟩ : ∃ x, x = lk[t] := ⟨_, rfl⟩
        rw [← hx] at c3
        have HX := Lib.hid hx
        have f3 := HLA.out.1.frozen t
        clear hx
        by_cases hs : x = num
        · have d2 : (x == num) = true := by simp; omega
          have HR := Lib.hid (mov_no kk (n := n) (.inr (by rw [← HTO.out]; exact (HSE.out t (by rw [HLA.out.2.1]; exact ht)).1 (by rw [← HX.out]; exact hs))))
          have HP := Lib.hid hp
          clear hp hs
          go_wp2_with fail
          refine (place_any _ _ _).mono ?_
          rintro e w1 ⟨rfl, rfl⟩
          rw [decide_eq_true HP.out]
          go_wp2_with fail
          go_ret
          exact ⟨ret_bool HR.out, ⟨_, HLA.out.1.below (below_alloc _ _), HLA.out.2⟩, HB.out.alloc hzb _⟩
        · by_cases hw : wt < 1
          · have d2 : (x == num) = false := by simp; omega
            have d3 : decide (wt < 1) = true := by simp; omega
            have HR := Lib.hid (mov_no kk (n := n) (.inl (by rw [← HWT.out]; omega)))
            have HP := Lib.hid hp
            clear hp hs hw
            go_wp2_with fail
            refine (place_any _ _ _).mono ?_
            rintro e w1 ⟨rfl, rfl⟩
            rw [decide_eq_true HP.out]
            go_wp2_with fail
            go_ret
            exact ⟨ret_bool HR.out, ⟨_, HLA.out.1.below (below_alloc _ _), HLA.out.2⟩, HB.out.alloc hzb _⟩
          · have d2 : (x == num) = false := by simp; omega
            have d3 : decide (wt < 1) = false := by simp; omega
            have HP := Lib.hid hp
            have HW := Lib.hid hw
            have HNE := Lib.hid hs
            clear hp hs hw
            go_wp2_with fail
            refine (place_any _ _ _).mono ?_
            rintro e w1 ⟨rfl, rfl⟩
            rw [decide_eq_true HP.out]
            go_wp2_with fail
            go_roundw
            case rel =>
              have hlt' : t < lk.length := by rw [HLA.out.2.1]; exact ht
              have hla' := la_step (t := t) HLA.out
              refine ⟨k + 1, lk.set t num, by go_num, by rw [← HLN.out]; omega, ⟨hla'.1.below (below_alloc _ _), hla'.2⟩, seen_step kk HTO.out.symm HSE.out, ?_, ?_, (HB.out.setCell (by omega) _).alloc (by simp; omega) _⟩
              · intro m hm
                rw [take_snoc kk, List.mem_append] at hm
                rcases hm with hm | hm
                · exact HGD.out m hm
                · simp only [List.mem_singleton] at hm
                  subst hm
                  rw [← HTO.out, ← HWT.out]
                  exact ⟨by omega, by omega, HW.out⟩
              · rw [take_snoc kk, List.map_append, List.nodup_append]
                refine ⟨HND.out, by simp, fun a ha b hb e => ?_⟩
                simp only [List.map_cons, List.map_nil, List.mem_singleton] at hb
                subst hb e
                rw [← HTO.out] at ha
                exact HNE.out (by rw [HX.out]; exact (HSE.out t hlt').2 ha)
            case measure => simp [intOf]; omega
      · have HR := Lib.hid (mov_no kk (n := n) (.inl (by rw [← HTO.out]; omega)))
        have HP := Lib.hid hp
        clear hp
        go_wp2_with fail
        refine (place_any _ _ _).mono ?_
        rintro e w1 ⟨rfl, rfl⟩
        rw [decide_eq_false HP.out]
        go_wp2_with fail
        go_ret
        exact ⟨ret_bool HR.out, ⟨_, HLA.out.1.below (below_alloc _ _), HLA.out.2⟩, HB.out.alloc hzb _⟩
    · have d1 : decide (k < L) = false := by simp; omega
      have hkl : k = L := by have := HLN.out; omega
      subst hkl
      by_cases h0 : 0 < k
      · have d2 : decide (0 < k) = true := by simp; omega
        have HR := Lib.hid (show true = decide (movR n l) from mov_yes (by rw [← HLN.out]; exact h0) (by rw [← HLN.out]; exact HGD.out) (by rw [← HLN.out]; exact HND.out))
        clear h0 hlt
        go_wp2
        go_ret
        exact ⟨ret_bool HR.out, ⟨_, HLA.out⟩, HB.out⟩
      · have d2 : decide (0 < k) = false := by simp; omega
        have HR := Lib.hid (show false = decide (movR n l) from mov_none (by rw [← HLN.out]; omega))
        clear h0 hlt
        go_wp2
        go_ret
        exact ⟨ret_bool HR.out, ⟨_, HLA.out⟩, HB.out⟩
end Go.Proofs.YtkgjpimapfmeoaaDoor
