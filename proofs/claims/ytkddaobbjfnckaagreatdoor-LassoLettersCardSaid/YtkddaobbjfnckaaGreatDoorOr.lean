/-
  LassoLetters, walked.
-/
import Derived.Test.YtkddaobbjfnckaaGreatDoorOp
import Derived.Test.YtkddaobbjfnckaaGreatDoorOo
import Derived.Test.YtkddaobbjfnckaaGreatDoorOq
namespace Go.Proofs.YtkddaobbjfnckaaGreatDoor
open Go.RowKit Go.Sort Go.Maps

theorem lt_same {s l : List Int} (h : s ≠ [] ∨ l ≠ []) (k : Nat) : ltO s l ((k : Int) + 1) = ltO (shS s) (shL s l) (k : Int) := by
  rw [ltO, if_neg (by omega), ltO, if_neg (by omega), show ((k : Int) + 1).toNat = k + 1 by omega, Int.toNat_natCast, wl_shift h]
  congr 1
  rw [decide_eq_decide]
  have h1 : (shL s l ≠ []) ↔ l ≠ [] := by
    rw [ne_eq, ne_eq, ← List.length_eq_zero_iff, ← List.length_eq_zero_iff, shL_len]
  rw [h1]
  cases s with
  | nil => simp [shS]
  | cons x r => simp [shS]
def L5Rel (w0 : World) (lo : Nat) (i : Value) (wr : World) : Prop := ∃ k : Nat, i = .int .i64 (k : Int) ∧ k ≤ 20 ∧ Below lo w0 wr
set_option maxHeartbeats 8000000 in
set_option maxRecDepth 100000 in
theorem lletters_yes {A B : Option Addr} {s l : List Int} {sc lc : Nat} {i : Int} (w : World) (hG : GlobS w) (h : WM w A B s l) (hc1 : CapOk A s.length sc) (hc2 : CapOk B l.length lc) (hi : -9223372036854775808 ≤ i ∧ i ≤ 9223372036854775807) (hs : s.length ≤ 4611686018427387900) (hl : l.length ≤ 4611686018427387900) :
    Calls Tryz.prog 5 #[.slice A s.length sc, .slice B l.length lc, .int .i64 i] w (LawF w) := by
  have HAL := Lib.hid (lalive_yes w hG)
  by_cases hbig : 100 < s.length + l.length
  · generalize s.length = n at *
    generalize l.length = m at *
    have d1 : decide ((100 : Int) < (n : Int) + (m : Int)) = true := by simp; omega
    clear h hc1 hc2 hG
    go_enter Tryz.func5, Tryz.ntmps5
    go_wp2_with fail
    with_reducible refine (HAL.out).mono ?_
    rintro e w1 ⟨rfl, hb1⟩
    have HB1 := Lib.hid hb1
    clear hb1
    go_wp2_with fail
    go_ret
    exact ⟨rfl, HB1.out⟩
  · have HLT := Lib.hid (fun (j : Int) (hj : -9223372036854775808 ≤ j ∧ j ≤ 9223372036854775807) (W : World) (hb : Below w.heap.size w W) => letter_any (sc := sc) (lc := lc) j W (h.below hb) (by omega) (by omega) hj)
    have HSH := Lib.hid (fun (W : World) (hb : Below w.heap.size w W) => shift_any (sc := sc) (lc := lc) W (h.below hb) hc1 hc2 (by omega) (by omega))
    have HWL := Lib.hid (fun (k : Nat) (hk : (k : Int) ≤ 9223372036854775807) (h0 : k < s.length ∨ l ≠ []) (W : World) (hb : Below w.heap.size w W) => wletter_any (sc := sc) (lc := lc) k W (h.below hb) (by omega) (by omega) hk h0)
    have HIN := Lib.hid (fun (W : World) (hb : Below w.heap.size w W) => ints_any (c1 := lc) (c2 := lc) W (h.lp.below hb) (h.lp.below hb) (by omega))
    rw [decide_eq_true rfl] at HIN
    have HLN := Lib.hid (show (shL s l).length = l.length from shL_len)
    have HSN := Lib.hid (show (shS s).length ≤ 100 by rw [shS, List.length_tail]; omega)
    have HLN6 := Lib.hid (show (shL s l).length ≤ 100 by rw [shL_len]; omega)
    have HNE := Lib.hid (show s.length = 0 ↔ s = [] from List.length_eq_zero_iff)
    have HME := Lib.hid (show l.length = 0 ↔ l = [] from List.length_eq_zero_iff)
    have HZ0 := Lib.hid (show ∀ k : Nat, s.length ≤ k → l = [] → ltO s l (k : Int) = (0, false) from fun k hk h => by subst h; exact lt_none hk)
    have HZ1 := Lib.hid (show ∀ k : Nat, ¬ (s.length ≤ k ∧ l.length = 0) → ltO s l (k : Int) = (wl s l k, true) ∧ (k < s.length ∨ l ≠ []) ∧ (s ≠ [] ∨ l ≠ []) from fun k hk => by
      have h1 : k < s.length ∨ l ≠ [] := by
        by_cases h2 : k < s.length
        · exact .inl h2
        · exact .inr fun h3 => hk ⟨by omega, by rw [h3]; rfl⟩
      refine ⟨by rw [ltO, if_neg (by omega), Int.toNat_natCast, decide_eq_true h1], h1, ?_⟩
      rcases h1 with h1 | h1
      · exact .inl fun h2 => by rw [h2] at h1; simp at h1
      · exact .inr h1)
    have HSM := Lib.hid (fun (h : s ≠ [] ∨ l ≠ []) (k : Nat) => lt_same h k)
    obtain ⟨n, hn⟩ : ∃ n, n = s.length := ⟨_, rfl⟩
    obtain ⟨m, hm⟩ : ∃ m, m = l.length := ⟨_, rfl⟩
    rw [← hn] at HLT HSH HWL HNE HZ0 HZ1 hbig hs ⊢
    rw [← hm] at HLT HSH HWL HIN HLN HME HZ1 hbig hl ⊢
    clear h hc1 hc2 hG hn hm
    have d1 : decide ((100 : Int) < (n : Int) + (m : Int)) = false := by simp; omega
    have d1' : ¬ (100 : Int) < (n : Int) + (m : Int) := by omega
    have HI := Lib.hid hi
    obtain ⟨cv, hcv⟩ : ∃ cv, cv = ltO s l i := ⟨_, rfl⟩
    go_enter Tryz.func5, Tryz.ntmps5
    go_wp2_with fail
    with_reducible refine (HAL.out).mono ?_
    rintro e w1 ⟨rfl, hb1⟩
    have HB1 := Lib.hid hb1
    clear hb1
    go_wp2_with fail
    with_reducible refine (HLT.out i HI.out _ (HB1.out.alloc HB1.out.size _)).mono ?_
    rintro e w2 ⟨rfl, hb2⟩
    rw [← hcv]
    have HCV := Lib.hid hcv
    have HBX := Lib.hid (show ∀ W, Below (w1.alloc (.cells #[.slice A n sc, .slice B m lc] 42)).heap.size (w1.alloc (.cells #[.slice A n sc, .slice B m lc] 42)) W → Bx W w1.heap.size 42 [.slice A n sc, .slice B m lc] ∧ Below w.heap.size w W from fun W hW => ⟨(Bx.new w1 42 [.slice A n sc, .slice B m lc]).below hW, (HB1.out.alloc HB1.out.size _).trans (hW.mono (HB1.out.alloc HB1.out.size _).size)⟩)
    have HK2 := Lib.hid hb2
    clear hb2 hcv
    by_cases hneg : i < 0
    · have d2 : decide (i < 0) = true := by simpa using hneg
      have hcv0 : cv = (0, false) := by rw [HCV.out, lt_neg hneg]
      subst hcv0
      clear hneg
      go_wp2_with fail
      go_ret
      exact ⟨rfl, (HBX.out _ HK2.out).2⟩
    · obtain ⟨k, rfl⟩ := Int.eq_ofNat_of_zero_le (show 0 ≤ i by omega)
      have d2 : decide ((k : Int) < 0) = false := by simp
      by_cases hno : n ≤ k ∧ m = 0
      · have hl0 := HME.out.1 hno.2
        have d3 : decide (n ≤ k) = true := by simpa using hno.1
        have d3' : decide ((n : Int) ≤ (k : Int)) = true := by simpa using hno.1
        have d4 : ((m : Int) == 0) = true := by simp [hno.2]
        have hcv0 : cv = (0, false) := by rw [HCV.out]; exact HZ0.out k hno.1 hl0
        subst hcv0
        clear hno hneg
        go_wp2_with fail
        go_ret
        exact ⟨rfl, (HBX.out _ HK2.out).2⟩
      · obtain ⟨hcv1, hor, hne⟩ := HZ1.out k hno
        have hcv0 : cv = (wl s l k, true) := by rw [HCV.out]; exact hcv1
        obtain ⟨c, hc⟩ : ∃ c, c = wl s l k := ⟨_, rfl⟩
        rw [← hc] at hcv0
        subst hcv0
        have HCC := Lib.hid hc
        have HOR := Lib.hid hor
        have HSS := Lib.hid (HSM.out hne)
        have HK63 := Lib.hid (show (k : Int) ≤ 9223372036854775807 from hi.2)
        have d9 : (c == c) = true := by simp
        obtain ⟨b0, b1⟩ : w2.cell? ⟨w1.heap.size, 0, none⟩ = some (.slice A n sc) ∧ w2.cell? ⟨w1.heap.size, 1, none⟩ = some (.slice B m lc) := ⟨(HBX.out _ HK2.out).1.cell 0, (HBX.out _ HK2.out).1.cell 1⟩
        clear hor hne hcv1 hc hneg
        have hsplit : (decide (n ≤ k) = false ∧ decide ((n : Int) ≤ (k : Int)) = false) ∨ (decide (n ≤ k) = true ∧ decide ((n : Int) ≤ (k : Int)) = true ∧ ((m : Int) == 0) = false ∧ ¬ (m : Int) = 0) := by
          by_cases h1 : n ≤ k
          · right
            have : m ≠ 0 := fun h2 => hno ⟨h1, h2⟩
            exact ⟨by simpa using h1, by simpa using h1, by simp; omega, by omega⟩
          · left
            exact ⟨by simpa using h1, by simpa using h1⟩
        clear hno
        rcases hsplit with ⟨d3, d3'⟩ | ⟨d3, d3', d4, d4'⟩
        all_goals
          go_wp2_with fail
          with_reducible refine (HSH.out _ (HBX.out _ HK2.out).2).mono ?_
          rintro e w3 ⟨A2, n2, sc2, B2, m2, lc2, rfl, hn2, hm2, hW2, -, -, hb3⟩
          have hmm : m2 = m := by rw [← hm2]; exact HLN.out
          have HLV := Lib.hid (fun (j : Int) (hj : -9223372036854775808 ≤ j ∧ j ≤ 9223372036854775807) (W : World) (hb : Below w3.heap.size w3 W) => letter_any (sc := sc2) (lc := lc2) j W (hW2.below hb) (by have := HSN.out; omega) (by have := HLN6.out; omega) hj)
          rw [hn2, hm2] at HLV
          subst hmm
          have HK3 := Lib.hid (HK2.out.trans (hb3.mono HK2.out.size))
          have HB4 := Lib.hid (show ∀ W, Below (w3.alloc (.cells #[.slice A2 n2 sc2, .slice B2 m2 lc2] 42)).heap.size (w3.alloc (.cells #[.slice A2 n2 sc2, .slice B2 m2 lc2] 42)) W → Bx W w3.heap.size 42 [.slice A2 n2 sc2, .slice B2 m2 lc2] ∧ Bx W w1.heap.size 42 [.slice A n sc, .slice B m2 lc] ∧ Below w3.heap.size w3 W ∧ Below w.heap.size w W from fun W hW => by
            have h3 := below_t (below_alloc w3 (.cells #[.slice A2 n2 sc2, .slice B2 m2 lc2] 42)) hW
            have h4 := HBX.out _ (HK3.out.trans (h3.mono HK3.out.size))
            exact ⟨(Bx.new w3 42 [.slice A2 n2 sc2, .slice B2 m2 lc2]).below hW, h4.1, h3, h4.2⟩)
          clear hn2 hm2 hW2 hb3 b0 b1
          go_wp2
          go_loopw [11] (fun i wr => L5Rel (w3.alloc (.cells #[.slice A2 n2 sc2, .slice B2 m2 lc2] 42)) (w3.alloc (.cells #[.slice A2 n2 sc2, .slice B2 m2 lc2] 42)).heap.size i wr) (fun i _ => 20 - (intOf i).toNat)
          case atStart => exact ⟨0, rfl, by omega, Below.refl _ _⟩
          case round =>
            obtain ⟨j, rfl, hj, hb⟩ := hrel
            have HB5 := Lib.hid hb
            obtain ⟨x2, x1, hw3, hw⟩ := HB4.out _ hb
            have a0 := x1.cell 0
            have a1 := x1.cell 1
            have v0 := x2.cell 0
            have v1 := x2.cell 1
            simp only [List.getElem?_cons_zero, List.getElem?_cons_succ] at a0 a1 v0 v1
            have HW3 := Lib.hid hw3
            have HW := Lib.hid hw
            clear x1 x2 hw3 hw hb
            by_cases hlt : j < 20
            · have e1 : decide (j < 20) = true := by simpa using hlt
              have e1' : decide ((j : Int) < 20) = true := by simp; omega
              have HL1 := Lib.hid (HLT.out ((j : Int) + 1) (by omega) _ HW.out)
              have HPE := Lib.hid (HSS.out j)
              obtain ⟨q, hq⟩ : ∃ q, q = ltO s l ((j : Int) + 1) := ⟨_, rfl⟩
              unfold LtP at HL1
              rw [← hq] at HL1 HPE
              clear hq
              go_wp2_with fail
              refine (HL1.out).mono ?_
              rintro e w6 ⟨rfl, hb6⟩
              have HK6 := Lib.hid (HB5.out.trans (hb6.mono HB5.out.size))
              obtain ⟨x2, x1, hw3, hw⟩ := HB4.out _ HK6.out
              have HL2 := Lib.hid (HLV.out (j : Int) (by omega) _ hw3)
              unfold LtP at HL2
              rw [← HPE.out] at HL2
              clear v0 v1 a0 a1
              have v0 := x2.cell 0
              have v1 := x2.cell 1
              simp only [List.getElem?_cons_zero, List.getElem?_cons_succ] at v0 v1
              clear hb6 x1 x2 hw3 hw
              obtain ⟨qa, qb⟩ := q
              have q0 : (qa != qa) = false := by simp
              go_wp2_with fail
              refine (HL2.out).mono ?_
              rintro e w7 ⟨rfl, hb7⟩
              have HK7 := Lib.hid (HK6.out.trans (hb7.mono HK6.out.size))
              clear hb7 v0 v1
              cases qb
              all_goals
                go_wp2_with fail
                go_roundw
                case rel => exact ⟨j + 1, by go_num, by omega, HK7.out⟩
                case measure => simp [intOf]; omega
            · have e1 : decide (j < 20) = false := by simp; omega
              have e1' : decide ((j : Int) < 20) = false := by simp; omega
              have e9 : ((m2 : Int) == (m2 : Int)) = true := by simp
              have HL1 := Lib.hid (HWL.out k HK63.out HOR.out _ HW.out)
              rw [← HCC.out] at HL1
              clear hj hlt v0 v1 a0 a1
              go_wp2_with fail
              refine (HL1.out).mono ?_
              rintro e w6 ⟨rfl, hb6⟩
              have HK6 := Lib.hid (HB5.out.trans (hb6.mono HB5.out.size))
              obtain ⟨x2, x1, hw3, hw⟩ := HB4.out _ HK6.out
              have a0 := x1.cell 0
              have a1 := x1.cell 1
              have v0 := x2.cell 0
              have v1 := x2.cell 1
              simp only [List.getElem?_cons_zero, List.getElem?_cons_succ] at a0 a1 v0 v1
              have HI2 := Lib.hid (HIN.out _ hw)
              have HW6 := Lib.hid hw
              clear hb6 x1 x2 hw3 hw
              go_wp2_with fail
              refine (HI2.out).mono ?_
              rintro e w7 ⟨rfl, hb7⟩
              have HW7 := Lib.hid (below_t HW6.out hb7)
              clear hb7
              go_wp2
              go_ret
              exact ⟨rfl, HW7.out⟩
end Go.Proofs.YtkddaobbjfnckaaGreatDoor
