/-
  The document's Letter, equal lists; walked.
-/
import Derived.Test.YtkddaobbjfnckaaGreatDoorOm
namespace Go.Proofs.YtkddaobbjfnckaaGreatDoor
open Go.RowKit

theorem take_snoc {α : Type} {l : List α} {k : Nat} (h : k < l.length) : l.take (k + 1) = l.take k ++ [l[k]] := List.take_succ_eq_append_getElem h
def EqRel (la lb : List Int) (w : World) (i : Value) (wr : World) : Prop := ∃ k : Nat, i = .int .i64 (k : Int) ∧ k ≤ la.length ∧ la.take k = lb.take k ∧ Below w.heap.size w wr
set_option maxHeartbeats 4000000 in
theorem ints_any {A B : Option Addr} {la lb : List Int} {c1 c2 : Nat} (w : World) (hA : ISl w A la) (hB : ISl w B lb) (hl : la.length ≤ 1000000) : Calls Tryz.prog 27 #[.slice A la.length c1, .slice B lb.length c2] w (BoolP (decide (la = lb)) w) := by
  by_cases hlen : la.length = lb.length
  · have g1 : ((la.length : Int) != (la.length : Int)) = false := by simp
    rw [← hlen]
    have HL := Lib.hid hlen
    have HA := Lib.hid hA
    have HB := Lib.hid hB
    obtain ⟨n, hn⟩ : ∃ n, n = la.length := ⟨_, rfl⟩
    rw [← hn] at hl g1 ⊢
    have HN := Lib.hid hn
    clear hlen hA hB hn
    go_enter Tryz.func27, Tryz.ntmps27
    go_wp2
    go_loopw [5] (fun i wr => EqRel la lb w i wr) (fun i _ => n - (intOf i).toNat)
    case atStart => exact ⟨0, rfl, Nat.zero_le _, rfl, Below.refl _ _⟩
    case round =>
      obtain ⟨k, rfl, hk, ht, hb⟩ := hrel
      by_cases hlt : k < n
      · have g2 : decide (k < n) = true := by simp; omega
        have k1 : k < la.length := by rw [← HN.out]; exact hlt
        have k2 : k < lb.length := by rw [← HL.out]; exact k1
        obtain ⟨g, o, rfl, a0⟩ := HA.out k k1
        obtain ⟨g', o', rfl, d0⟩ := HB.out k k2
        replace a0 := cell_blw hb a0
        replace d0 := cell_blw hb d0
        have HT := Lib.hid ht
        have HBb := Lib.hid hb
        have HA2 := Lib.hid HA
        have HB2 := Lib.hid HB
        clear ht hb hk HA HB
        by_cases he : la[k] = lb[k]
        · have HR := Lib.hid (show la.take (k + 1) = lb.take (k + 1) by rw [take_snoc k1, take_snoc k2, HT.out, he])
          rw [he] at a0
          clear he
          generalize lb[k] = x at *
          have q : (x != x) = false := by simp
          go_wp2_with fail
          go_quiet (fail)
          go_wp2
          go_roundw
          case rel => exact ⟨k + 1, by go_num, by omega, HR.out, below_drewN HBb.out _⟩
          case measure => simp [intOf]; omega
        · have HR := Lib.hid (show la ≠ lb from fun e => he (by subst e; rfl))
          have q : (la[k] != lb[k]) = true := by simp [he]
          clear he
          generalize lb[k] = x at *
          generalize la[k] = y at *
          go_wp2_with fail
          go_quiet (fail)
          go_wp2
          go_ret
          exact ⟨ret_bool (decide_eq_false HR.out).symm, below_drewN HBb.out _⟩
      · have g2 : decide (k < n) = false := by simp; omega
        have HR := Lib.hid (show la = lb by
          have h1 : la.take k = la := List.take_of_length_le (by rw [← HN.out]; omega)
          have h2 : lb.take k = lb := List.take_of_length_le (by rw [← HL.out, ← HN.out]; omega)
          rw [h1, h2] at ht; exact ht)
        have HBb := Lib.hid hb
        clear ht hb hk
        go_wp2
        go_ret
        exact ⟨ret_bool (decide_eq_true HR.out).symm, HBb.out⟩
  · have g1 : ((la.length : Int) != (lb.length : Int)) = true := by rw [bne_iff_ne]; omega
    have HR := Lib.hid (show la ≠ lb from fun h => hlen (by rw [h]))
    clear hlen hA hB
    go_enter Tryz.func27, Tryz.ntmps27
    go_wp2
    go_ret
    exact ⟨ret_bool (decide_eq_false HR.out).symm, Below.refl _ _⟩
theorem wl_stem {s l : List Int} {k : Nat} (h : k < s.length) : wl s l k = s[k] := by rw [wl, if_pos h, List.getD_eq_getElem?_getD, List.getElem?_eq_getElem h]; rfl
theorem wl_loop {s l : List Int} {d : Nat} (h : d % l.length < l.length) : wl s l (s.length + d) = l[d % l.length] := by
  rw [wl, if_neg (by omega), Nat.add_sub_cancel_left, List.getD_eq_getElem?_getD, List.getElem?_eq_getElem h]; rfl
set_option maxHeartbeats 4000000 in
theorem wletter_any {A B : Option Addr} {s l : List Int} {sc lc : Nat} (k : Nat) (w : World) (h : WM w A B s l) (h1 : s.length ≤ 1000000) (h2 : l.length ≤ 1000000) (hk63 : (k : Int) ≤ 9223372036854775807) (hl0 : k < s.length ∨ l ≠ []) : Calls Tryz.prog 26 #[.agg #[.slice A s.length sc, .slice B l.length lc], .int .i64 (k : Int)] w fun e w' => e = .returned (.int .i64 (wl s l k)) ∧ Below w.heap.size w w' := by
  by_cases hk : k < s.length
  · have HE := Lib.hid (wl_stem (l := l) hk)
    rw [HE.out]
    have c1 := (h.st.below (below_alloc w (.cells #[.slice A s.length sc, .slice B l.length lc] 38))) k hk
    obtain ⟨g, o, hA, c1⟩ := c1
    generalize s[k] = c at *
    obtain ⟨n, hn⟩ : ∃ n, n = s.length := ⟨_, rfl⟩
    rw [← hn] at hk h1 c1 ⊢
    have d1 : decide (k < n) = true := by simp; omega
    generalize l.length = m at *
    subst hA
    clear h hl0 HE hn
    show Calls Tryz.prog 26 #[.agg #[.slice (some ⟨g, o, none⟩) n sc, .slice B m lc], .int .i64 (k : Int)] w _
    go_enter Tryz.func26, Tryz.ntmps26
    go_wp2
    go_ret
    exact ⟨rfl, below_alloc _ _⟩
  · skip
    have hm : 0 < l.length := List.length_pos_iff.2 (hl0.resolve_left hk)
    obtain ⟨d, rfl⟩ : ∃ d, k = s.length + d := ⟨k - s.length, by omega⟩
    have hd := Nat.mod_lt d hm
    have HE := Lib.hid (wl_loop (s := s) hd)
    rw [HE.out]
    have c1 := (h.lp.below (below_alloc w (.cells #[.slice A s.length sc, .slice B l.length lc] 38))) _ hd
    obtain ⟨g, o, hA, c1⟩ := c1
    generalize l[d % l.length] = c at *
    have hj : Int.tmod (d : Int) (l.length : Int) = ((d % l.length : Nat) : Int) := rfl
    obtain ⟨j, hjj⟩ : ∃ j, j = d % l.length := ⟨_, rfl⟩
    rw [← hjj] at hd c1 hj
    obtain ⟨m, hmm⟩ : ∃ m, m = l.length := ⟨_, rfl⟩
    rw [← hmm] at hm hd h2 c1 hj ⊢
    generalize s.length = n at *
    subst hA
    have d1 : decide (n + d < n) = false := by simp
    have d2 : decide ((m : Int) = 0) = false := by simp; omega
    have d3 : ((m : Int) == 0) = false := by simp; omega
    have hs : ((n + d : Nat) : Int) - (n : Int) = (d : Int) := by omega
    have hm0 : (m : Int) ≠ 0 := by omega
    have hw : IntKind.i64.wrap ((n : Int) + (d : Int) - (n : Int)) = (d : Int) := by rw [IntKind.wrap_i64]; omega
    have hwj : IntKind.i64.wrap (j : Int) = (j : Int) := by rw [IntKind.wrap_i64]; omega
    have k0 : (0 : Int) ≤ (j : Int) := by omega
    have k1 : (j : Int) < (m : Int) := by omega
    clear h hl0 HE hjj hmm
    show Calls Tryz.prog 26 #[.agg #[.slice A n sc, .slice (some ⟨g, o, none⟩) m lc], .int .i64 ((n + d : Nat) : Int)] w _
    go_enter Tryz.func26, Tryz.ntmps26
    go_wp2_with fail
    go_quiet (fail)
    go_wp2
    go_ret
    exact ⟨rfl, below_drewN (below_alloc _ _) _⟩
end Go.Proofs.YtkddaobbjfnckaaGreatDoor
