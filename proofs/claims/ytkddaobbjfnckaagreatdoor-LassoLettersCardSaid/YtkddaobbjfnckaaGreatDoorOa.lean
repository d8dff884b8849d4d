/-
  next, walked.
-/
import Derived.Test.YtkddaobbjfnckaaGreatDoorO9
import Derived.Deep.RegionHeld3
namespace Go.Proofs.YtkddaobbjfnckaaGreatDoor
open Go.RowKit Go.Sort

theorem owns_blw {w w' : World} {lo : Nat} {e : TypeId} {sz n : Nat} {v : Value} {cs : List Value} (h : w.ownsRow lo e sz v n cs) (hb : Below w.heap.size w w') : w'.ownsRow lo e sz v n cs := by
  refine ⟨h.1, ?_⟩
  rcases h.2 with h | ⟨g, cap, cur, h1, h2, h3, h4⟩
  · exact .inl h
  · exact .inr ⟨g, cap, cur, h1, h2, (hb.block g (blk_lt h3)).trans h3, h4⟩
theorem own_base {w : World} {lo lo' : Nat} {e : TypeId} {sz n : Nat} {v : Value} {cs : List Value} (h : w.ownsRow lo e sz v n cs) (hl : lo' ≤ lo) : w.ownsRow lo' e sz v n cs := by
  refine ⟨h.1, ?_⟩
  rcases h.2 with h | ⟨g, cap, cur, h1, h2, h3, h4⟩
  · exact .inl h
  · exact .inr ⟨g, cap, cur, h1, Nat.le_trans hl h2, h3, h4⟩
theorem bsl_owns {w : World} {lo : Nat} {v : Value} {l : List Bool} (h : w.ownsRow lo 4 1 v l.length (l.map bv)) : ∃ A cap, v = .slice A l.length cap ∧ l.length ≤ cap ∧ BSl w A l := by
  rcases h.2 with ⟨rfl, hn⟩ | ⟨g, cap, cur, hv, _, hb, hc, _⟩
  · exact ⟨none, 0, by rw [hn], by omega, fun i hi => absurd hi (by omega)⟩
  · subst hv
    refine ⟨_, cap, rfl, hc, fun i hi => ⟨g, 0, rfl, ?_⟩⟩
    have h1 := h.cells (g := g) rfl i (.bool l[i]) (by rw [List.getElem?_map, List.getElem?_eq_getElem hi]; rfl)
    have e : (⟨g, 0, none⟩ : Addr).add i = ⟨g, i, none⟩ := by
      unfold Addr.add
      by_cases hj : i = 0 <;> simp [hj]
    rw [e] at h1
    rw [Nat.zero_add]
    exact h1
/-- One truth more. -/
theorem nx_news {W : World} {q : Nat} {b : Bool} (h : W.cell? ⟨q, 0, none⟩ = some (.bool b)) : ∀ (j : Nat) (u : Value), ([.bool b] : List Value)[j]? = some u → W.cell? ((⟨q, 0, none⟩ : Addr).add j) = some u := by
  intro j u hu
  match j with
  | 0 =>
    injection hu with hu
    subst hu
    exact h
theorem nx_one {b : Bool} : ∀ u ∈ ([.bool b] : List Value), u.oneCell' = true := by
  intro u hu
  simp only [List.mem_singleton] at hu
  subst hu
  rfl
theorem nx_fin {w w5 : World} {r : List Bool} {b : Bool} {lo g5 cap5 : Nat} (ho : w5.ownsRow lo 4 1 (.slice (some ⟨g5, 0, none⟩) (r.length + 1) cap5) (r.length + 1) (r.map bv ++ [.bool b])) (hb : Below w.heap.size w w5) : BLP (r ++ [b]) w (.returned (.slice (some ⟨g5, 0, none⟩) (r.length + 1) cap5)) w5 := by
  have ho' : w5.ownsRow lo 4 1 (.slice (some ⟨g5, 0, none⟩) (r.length + 1) cap5) (r ++ [b]).length ((r ++ [b]).map bv) := by
    rw [List.length_append, List.map_append]; exact ho
  obtain ⟨A, cap, h1, h2, h3⟩ := bsl_owns ho'
  exact ⟨A, cap, by rw [h1], h2, h3, hb⟩
set_option maxHeartbeats 4000000 in
set_option maxRecDepth 100000 in
theorem next_any {N P : Option Addr} {nl nc pl pc a g o cap : Nat} {l : List Bool} (w : World) (h : BSl w (some ⟨g, o, none⟩) l) (ha : a < l.length) (hcap : l.length ≤ cap) (hlen : l.length ≤ 1000000) :
    Calls Tryz.prog 59 #[plv N nl nc P pl pc a, .slice (some ⟨g, o, none⟩) l.length cap] w (BLP (nextL a l) w) := by
  obtain ⟨i0, hi0, hz⟩ := Option.map_eq_some_iff.1 infoBo
  simp only [Prod.mk.injEq] at hz
  obtain ⟨hz0, hz1, hz2⟩ := hz
  have HI := Lib.hid hi0
  have HZ0 := Lib.hid hz0
  have HZ1 := Lib.hid hz1
  have HZ2 := Lib.hid hz2
  obtain ⟨W0, hW0⟩ : ∃ W0, W0 = w.alloc (.cells #[.slice N nl nc, .slice P pl pc, .int .i64 (a : Int)] 76) := ⟨_, rfl⟩
  have hbw : Below w.heap.size w W0 := by rw [hW0]; exact below_alloc _ _
  have hbx : Bx W0 w.heap.size 76 [.slice N nl nc, .slice P pl pc, .int .i64 (a : Int)] := by rw [hW0]; exact Bx.new _ _ _
  obtain ⟨b, hbb⟩ : ∃ b, b = l.getD a false := ⟨_, rfl⟩
  have hca : W0.cell? ⟨g, o + a, none⟩ = some (.bool b) := by
    obtain ⟨g', o', e, hc⟩ := h.below hbw a ha
    injection e with e
    injection e with e1 e2
    subst e1 e2
    rw [hc, hbb, bget ha]
  have HSS := Lib.hid (show ∀ W, Below W0.heap.size W0 W → (W.cell? ⟨w.heap.size, 2, none⟩ = some (.int .i64 (a : Int)) ∧ W.cell? ⟨g, o + a, none⟩ = some (.bool b)) from fun W hW => ⟨((hbx.below hW).cell 2).trans rfl, cell_blw hW hca⟩)
  obtain ⟨cm, rfl⟩ : ∃ cm, cap = cm + 1 := ⟨cap - 1, by omega⟩
  obtain ⟨x, r, rfl⟩ : ∃ x r, l = x :: r := by
    cases l with
    | nil => exact absurd ha (by simp)
    | cons x r => exact ⟨x, r, rfl⟩
  have HT := Lib.hid (show ∀ W, Below W0.heap.size W0 W → ∀ o', (r ≠ [] → o' = o + 1) → BSl W (some ⟨g, o', none⟩) r from fun W hW o' ho' i hi => by
    obtain ⟨g', o2, e, hc⟩ := h.below (below_t hbw hW) (i + 1) (by simp; omega)
    injection e with e
    injection e with e1 e2
    subst e1 e2
    refine ⟨g, o', rfl, ?_⟩
    rw [ho' (by rintro rfl; simp at hi), show o + 1 + i = o + (i + 1) by omega, hc]
    simp)
  have HNL := Lib.hid (show nextL a (x :: r) = r ++ [b] by rw [nextL, hbb]; rfl)
  rw [HNL.out]
  simp only [List.length_cons] at ha hcap hlen ⊢
  obtain ⟨m, hm⟩ : ∃ m, m = r.length := ⟨_, rfl⟩
  have HM := Lib.hid hm
  rw [← hm] at ha hcap hlen ⊢
  have HC := Lib.hid (fun (W : World) (hW : Below W0.heap.size W0 W) (o' : Nat) (ho' : r ≠ [] → o' = o + 1) => cloneb_any (cap := cm) W (HT.out W hW o' ho') (by rw [← hm]; omega))
  rw [← hm] at HC
  have HBW := Lib.hid hbw
  clear hi0 hz0 hz1 hz2 h hm hbw hca hbb hbx
  have lk : Below W0.heap.size W0 W0.drew := (Below.refl _ _).drew
  subst hW0
  have k0 : (0 : Int) ≤ (a : Int) := by omega
  have k1 : (a : Int) < (m : Int) + 1 := by omega
  have k2 : (1 : Int) ≤ (m : Int) + 1 := by omega
  by_cases hc0 : cm = 0
  · subst hc0
    have hm0 : m = 0 := by omega
    have hr0 : r = [] := List.eq_nil_of_length_eq_zero (HM.out.symm.trans hm0)
    have ha0 : a = 0 := by omega
    subst hm0 hr0 ha0
    have HSZ := Lib.hid (show ∀ W, Below (w.alloc (.cells #[.slice N nl nc, .slice P pl pc, .int .i64 0] 76)).heap.size (w.alloc (.cells #[.slice N nl nc, .slice P pl pc, .int .i64 0] 76)) W → (W.cell? ⟨w.heap.size, 2, none⟩ = some (.int .i64 0) ∧ W.cell? ⟨g, o, none⟩ = some (.bool b)) from fun W hW => HSS.out W hW)
    show Calls Tryz.prog 59 #[.agg #[.slice N nl nc, .slice P pl pc, .int .i64 0], .slice (some ⟨g, o, none⟩) 1 1] w (BLP ([] ++ [b]) w)
    clear k0 k1 k2 ha hcap hlen HSS
    replace HBW := Lib.hid (show Below w.heap.size w (w.alloc (.cells #[.slice N nl nc, .slice P pl pc, .int .i64 0] 76)) from below_alloc _ _)
    replace lk : Below (w.alloc (.cells #[.slice N nl nc, .slice P pl pc, .int .i64 0] 76)).heap.size (w.alloc (.cells #[.slice N nl nc, .slice P pl pc, .int .i64 0] 76)) (w.alloc (.cells #[.slice N nl nc, .slice P pl pc, .int .i64 0] 76)).drew := (Below.refl _ _).drew
    go_enter Tryz.func59, Tryz.ntmps59
    go_wp2_with fail
    go_region_held3 (fun w' => w'.cell? ⟨w.heap.size, 2, none⟩ = some (.int .i64 0) ∧ w'.cell? ⟨g, o, none⟩ = some (.bool b)) (first | exact HSZ.out _ lk | exact HSZ.out _ (lk.alloc lk.size _)) (first
      | (go_at_call 84
         refine (HC.out _ (by first | exact lk | exact lk.alloc lk.size _) _ (fun h => absurd rfl h)).mono ?_
         rintro e4 w4 ⟨v4, rfl, hO4, hb4⟩
         have HO4 := Lib.hid hO4
         have HB4 := Lib.hid hb4
         replace lk : Below (w.alloc (.cells #[.slice N nl nc, .slice P pl pc, .int .i64 0] 76)).heap.size (w.alloc (.cells #[.slice N nl nc, .slice P pl pc, .int .i64 0] 76)) w4 := by first | exact lk.trans (hb4.mono lk.size) | exact (lk.alloc lk.size _).trans (hb4.mono (lk.alloc lk.size _).size)
         clear hO4 hb4)
      | ((with_reducible refine step_append_lies (w4.alloc (.cells #[.bool b] 4)) ?za0 (.tmp 7) (.tmp 13) 39 ?za1 (w.heap.size + 1) 4 i0 (.bool false) 1 1 ?za2 ?za3 ?za4 ?za5 ?za6 ?za7 ?za8 v4 0 ([].map bv) ?zb1 ?zb2 ⟨w4.heap.size, 0, none⟩ 1 1 [.bool b] ?zb3 ?zb4 ?zb5 ?zb6 ?zb7 ?zb8 ?zb9 ?zc1 (w4.heap.size + 1) ?zc2 ?zc3)
         case za0 => rfl
         case za1 => rfl
         case za2 => exact Tryz.underlying39
         case za3 => exact HI.out
         case za4 => exact HZ0.out
         case za5 => exact HZ1.out
         case za6 => exact HZ2.out
         case za7 => rfl
         case za8 => exact Nat.one_pos
         case zb1 => simp [Act.eval]
         case zb2 => exact own_base (owns_blw HO4.out (below_alloc _ _)) (by simp)
         case zb3 => simp [Act.eval]
         case zb4 => rfl
         case zb5 => exact nx_news (by simp)
         case zb6 => exact nx_one
         case zb7 => exact Nat.one_pos
         case zb8 => unfold maxLen; omega
         case zb9 => omega
         case zc1 => have := HB4.out.size; simp at this ⊢; omega
         case zc2 => first | rfl | simp
         intro g5 cap5 w5 ho5 hg5 hat5 hlt5
         have HF := Lib.hid (show BLP ([] ++ [b]) w (.returned (.slice (some ⟨g5, 0, none⟩) (0 + 1) cap5)) w5 by
           have ho6 := ho5
           refine nx_fin (r := []) ho6 ?_
           exact ((HBW.out.trans (lk.mono HBW.out.size)).alloc (by have := HBW.out.size; have := lk.size; omega) _).grown hg5 (by have := HBW.out.size; have := lk.size; simp at this ⊢; omega) (fun k hk => by have := (HO4.out.lt k hk).1; have h2 := HBW.out.size; simp at this h2; omega))
         replace lk : Below (w.alloc (.cells #[.slice N nl nc, .slice P pl pc, .int .i64 0] 76)).heap.size (w.alloc (.cells #[.slice N nl nc, .slice P pl pc, .int .i64 0] 76)) w5 := (lk.alloc lk.size _).grown hg5 (by have := lk.size; simp at this ⊢; omega) (fun k hk => by have := (HO4.out.lt k hk).1; simp at this ⊢; omega)
         clear ho5 hg5 hat5)
      | ((with_reducible refine step_append_lies w4 ?zua0 (.tmp 7) (.tmp 13) 39 ?zua1 (w.heap.size + 1) 4 i0 (.bool false) 1 1 ?zua2 ?zua3 ?zua4 ?zua5 ?zua6 ?zua7 ?zua8 v4 0 ([].map bv) ?zub1 ?zub2 ⟨w.heap.size + 1, 0, none⟩ 1 1 [.bool b] ?zub3 ?zub4 ?zub5 ?zub6 ?zub7 ?zub8 ?zub9 ?zuc1 w4.heap.size ?zuc2 ?zuc3)
         case zua0 => rfl
         case zua1 => rfl
         case zua2 => exact Tryz.underlying39
         case zua3 => exact HI.out
         case zua4 => exact HZ0.out
         case zua5 => exact HZ1.out
         case zua6 => exact HZ2.out
         case zua7 => rfl
         case zua8 => exact Nat.one_pos
         case zub1 => simp [Act.eval]
         case zub2 => exact own_base HO4.out (by simp)
         case zub3 => simp [Act.eval]
         case zub4 => rfl
         case zub5 => (refine nx_news (cell_blw HB4.out ?_); simp)
         case zub6 => exact nx_one
         case zub7 => exact Nat.one_pos
         case zub8 => unfold maxLen; omega
         case zub9 => omega
         case zuc1 => have := HB4.out.size; simp at this ⊢; omega
         case zuc2 => first | rfl | simp
         intro g5 cap5 w5 ho5 hg5 hat5 hlt5
         have HF := Lib.hid (show BLP ([] ++ [b]) w (.returned (.slice (some ⟨g5, 0, none⟩) (0 + 1) cap5)) w5 by
           have ho6 := ho5
           refine nx_fin (r := []) ho6 ?_
           exact (HBW.out.trans (lk.mono HBW.out.size)).grown hg5 (by have := HBW.out.size; have := lk.size; simp at this ⊢; omega) (fun k hk => by have := (HO4.out.lt k hk).1; have h2 := HBW.out.size; simp at this h2; omega))
         replace lk : Below (w.alloc (.cells #[.slice N nl nc, .slice P pl pc, .int .i64 0] 76)).heap.size (w.alloc (.cells #[.slice N nl nc, .slice P pl pc, .int .i64 0] 76)) w5 := lk.grown hg5 (by have := lk.size; simp at this ⊢; omega) (fun k hk => by have := (HO4.out.lt k hk).1; simp at this ⊢; omega)
         clear ho5 hg5 hat5)
      | fail)
    all_goals
      go_wp2
      go_ret
      exact HF.out
  · go_enter Tryz.func59, Tryz.ntmps59
    go_wp2_with fail
    go_region_held3 (fun w' => w'.cell? ⟨w.heap.size, 2, none⟩ = some (.int .i64 (a : Int)) ∧ w'.cell? ⟨g, o + a, none⟩ = some (.bool b)) (first | exact HSS.out _ lk | exact HSS.out _ (lk.alloc lk.size _)) (first
      | (go_at_call 84
         refine (HC.out _ (by first | exact lk | exact lk.alloc lk.size _) _ (fun _ => rfl)).mono ?_
         rintro e4 w4 ⟨v4, rfl, hO4, hb4⟩
         have HO4 := Lib.hid hO4
         have HB4 := Lib.hid hb4
         replace lk : Below (w.alloc (.cells #[.slice N nl nc, .slice P pl pc, .int .i64 (a : Int)] 76)).heap.size (w.alloc (.cells #[.slice N nl nc, .slice P pl pc, .int .i64 (a : Int)] 76)) w4 := by first | exact lk.trans (hb4.mono lk.size) | exact (lk.alloc lk.size _).trans (hb4.mono (lk.alloc lk.size _).size)
         clear hO4 hb4)
      | ((with_reducible refine step_append_lies (w4.alloc (.cells #[.bool b] 4)) ?a0 (.tmp 7) (.tmp 13) 39 ?a1 (w.heap.size + 1) 4 i0 (.bool false) 1 1 ?a2 ?a3 ?a4 ?a5 ?a6 ?a7 ?a8 v4 m (r.map bv) ?b1 ?b2 ⟨w4.heap.size, 0, none⟩ 1 1 [.bool b] ?b3 ?b4 ?b5 ?b6 ?b7 ?b8 ?b9 ?c1 (w4.heap.size + 1) ?c2 ?c3)
         case a0 => rfl
         case a1 => rfl
         case a2 => exact Tryz.underlying39
         case a3 => exact HI.out
         case a4 => exact HZ0.out
         case a5 => exact HZ1.out
         case a6 => exact HZ2.out
         case a7 => rfl
         case a8 => exact Nat.one_pos
         case b1 => simp [Act.eval]
         case b2 => exact own_base (owns_blw HO4.out (below_alloc _ _)) (by simp)
         case b3 => simp [Act.eval]
         case b4 => rfl
         case b5 => exact nx_news (by simp)
         case b6 => exact nx_one
         case b7 => exact Nat.one_pos
         case b8 => unfold maxLen; omega
         case b9 => omega
         case c1 => have := HB4.out.size; simp at this ⊢; omega
         case c2 => first | rfl | simp
         intro g5 cap5 w5 ho5 hg5 hat5 hlt5
         have HF := Lib.hid (show BLP (r ++ [b]) w (.returned (.slice (some ⟨g5, 0, none⟩) (m + 1) cap5)) w5 by
           have ho6 := ho5
           rw [HM.out] at ho6 ⊢
           refine nx_fin ho6 ?_
           exact ((HBW.out.trans (lk.mono HBW.out.size)).alloc (by have := HBW.out.size; have := lk.size; omega) _).grown hg5 (by have := HBW.out.size; have := lk.size; simp at this ⊢; omega) (fun k hk => by have := (HO4.out.lt k hk).1; have h2 := HBW.out.size; simp at this h2; omega))
         replace lk : Below (w.alloc (.cells #[.slice N nl nc, .slice P pl pc, .int .i64 (a : Int)] 76)).heap.size (w.alloc (.cells #[.slice N nl nc, .slice P pl pc, .int .i64 (a : Int)] 76)) w5 := (lk.alloc lk.size _).grown hg5 (by have := lk.size; simp at this ⊢; omega) (fun k hk => by have := (HO4.out.lt k hk).1; simp at this ⊢; omega)
         clear ho5 hg5 hat5)
      | ((with_reducible refine step_append_lies w4 ?ua0 (.tmp 7) (.tmp 13) 39 ?ua1 (w.heap.size + 1) 4 i0 (.bool false) 1 1 ?ua2 ?ua3 ?ua4 ?ua5 ?ua6 ?ua7 ?ua8 v4 m (r.map bv) ?ub1 ?ub2 ⟨w.heap.size + 1, 0, none⟩ 1 1 [.bool b] ?ub3 ?ub4 ?ub5 ?ub6 ?ub7 ?ub8 ?ub9 ?uc1 w4.heap.size ?uc2 ?uc3)
         case ua0 => rfl
         case ua1 => rfl
         case ua2 => exact Tryz.underlying39
         case ua3 => exact HI.out
         case ua4 => exact HZ0.out
         case ua5 => exact HZ1.out
         case ua6 => exact HZ2.out
         case ua7 => rfl
         case ua8 => exact Nat.one_pos
         case ub1 => simp [Act.eval]
         case ub2 => exact own_base HO4.out (by simp)
         case ub3 => simp [Act.eval]
         case ub4 => rfl
         case ub5 => (refine nx_news (cell_blw HB4.out ?_); simp)
         case ub6 => exact nx_one
         case ub7 => exact Nat.one_pos
         case ub8 => unfold maxLen; omega
         case ub9 => omega
         case uc1 => have := HB4.out.size; simp at this ⊢; omega
         case uc2 => first | rfl | simp
         intro g5 cap5 w5 ho5 hg5 hat5 hlt5
         have HF := Lib.hid (show BLP (r ++ [b]) w (.returned (.slice (some ⟨g5, 0, none⟩) (m + 1) cap5)) w5 by
           have ho6 := ho5
           rw [HM.out] at ho6 ⊢
           refine nx_fin ho6 ?_
           exact (HBW.out.trans (lk.mono HBW.out.size)).grown hg5 (by have := HBW.out.size; have := lk.size; simp at this ⊢; omega) (fun k hk => by have := (HO4.out.lt k hk).1; have h2 := HBW.out.size; simp at this h2; omega))
         replace lk : Below (w.alloc (.cells #[.slice N nl nc, .slice P pl pc, .int .i64 (a : Int)] 76)).heap.size (w.alloc (.cells #[.slice N nl nc, .slice P pl pc, .int .i64 (a : Int)] 76)) w5 := lk.grown hg5 (by have := lk.size; simp at this ⊢; omega) (fun k hk => by have := (HO4.out.lt k hk).1; simp at this ⊢; omega)
         clear ho5 hg5 hat5)
      | fail)
    all_goals
      go_wp2
      go_ret
      exact HF.out
end Go.Proofs.YtkddaobbjfnckaaGreatDoor
