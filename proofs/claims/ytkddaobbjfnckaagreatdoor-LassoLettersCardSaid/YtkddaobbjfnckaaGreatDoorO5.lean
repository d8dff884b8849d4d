/-
  both, either, until, walked.
-/
import Derived.Test.YtkddaobbjfnckaaGreatDoorO4
namespace Go.Proofs.YtkddaobbjfnckaaGreatDoor
open Go.RowKit

set_option maxHeartbeats 4000000 in
theorem both_any {A B : Option Addr} {l r : List Bool} {cap cap2 : Nat} (w : World) (h : BSl w A l) (hr : BSl w B r) (hlr : l.length = r.length) (hlen : l.length ≤ 1000000) : Calls Tryz.prog 61 #[.slice A l.length cap, .slice B r.length cap2] w (BLP (bothL l r) w) := by
  obtain ⟨i0, hi0, hz⟩ := Option.map_eq_some_iff.1 infoBo
  simp only [Prod.mk.injEq] at hz
  obtain ⟨hz0, hz1, hz2⟩ := hz
  have HI := Lib.hid hi0
  have HZ0 := Lib.hid hz0
  have HZ1 := Lib.hid hz1
  have HZ2 := Lib.hid hz2
  have HL := Lib.hid h
  have HR := Lib.hid hr
  rw [← hlr]
  obtain ⟨n, hn⟩ : ∃ n, n = l.length := ⟨_, rfl⟩
  obtain ⟨tgt, ht⟩ : ∃ t, t = bothL l r := ⟨_, rfl⟩
  have HN := Lib.hid hn
  have HN2 := Lib.hid (show n = r.length by rw [hn, hlr])
  have HT := Lib.hid ht
  have HTL := Lib.hid (show tgt.length = n by rw [ht, hn]; simp [bothL, hlr])
  rw [← hn] at hlen ⊢
  rw [← ht]
  clear h hr hn ht hlr hi0 hz0 hz1 hz2
  go_enter Tryz.func61, Tryz.ntmps61
  go_wp2_with (at_make; refine wpList_make_full _ rfl _ _ 39 rfl w.heap.size 4 i0 (.bool false) 1 Tryz.underlying39 HI.out HZ0.out HZ1.out .i64 .i64 (n : Int) (n : Int) n rfl rfl rfl rfl (by rw [HZ2.out]; omega) (by unfold maxLen; omega) (Nat.le_refl _) ?_)
  intro w1 ho1 hg1
  rw [made_one] at ho1
  have HB1 := Lib.hid ((Below.refl w.heap.size w).grown hg1 (Nat.le_refl _) (fun k hk => by cases hk))
  have HX1 := Lib.hid (FilR.start (tgt := tgt) (owns_full ho1) (Nat.le_refl _) HB1.out)
  clear ho1 hg1
  go_wp2
  go_loopw [12] (fun i wr => FilRel w.heap.size n tgt w i wr) (fun i _ => n - (intOf i).toNat)
  case atStart => exact ⟨0, rfl, Nat.zero_le _, HX1.out⟩
  case round =>
    obtain ⟨k, rfl, hk, hF⟩ := hrel
    by_cases hlt : k < n
    · have d1 : decide (k < n) = true := by simp; omega
      have kk : k < l.length := by rw [← HN.out]; exact hlt
      have kk2 : k < r.length := by rw [← HN2.out]; exact hlt
      obtain ⟨g, o, rfl, c1⟩ := HL.out.below hF.blw k kk
      obtain ⟨g', o', rfl, c1'⟩ := HR.out.below hF.blw k kk2
      have HLL := Lib.hid HL
      have HRR := Lib.hid HR
      clear HL HR
      obtain ⟨⟨b0, c2⟩, f2, g2⟩ := hF.cell hlt
      have HE := Lib.hid (show (l[k] && r[k]) = tgt.getD k false by rw [HT.out, bothL, List.getD_eq_getElem?_getD, List.getElem?_zipWith, List.getElem?_eq_getElem kk, List.getElem?_eq_getElem kk2]; rfl)
      generalize l[k] = b at *
      generalize r[k] = b2 at *
      have HF := Lib.hid hF
      clear hF hk
      cases b
      all_goals
        go_wp2_with fail
        go_roundw
        case rel => exact ⟨k + 1, by go_num, by omega, HF.out.step hlt (by simpa using HE.out)⟩
        case measure => simp [intOf]; omega
    · have d1 : decide (k < n) = false := by simp; omega
      have hkn : k = n := by omega
      subst hkn
      have HF := Lib.hid hF
      clear hF hk
      go_wp2_with fail
      go_ret
      exact blp_ret (HF.out.done HTL.out) HTL.out HF.out.blw
set_option maxHeartbeats 4000000 in
theorem either_any {A B : Option Addr} {l r : List Bool} {cap cap2 : Nat} (w : World) (h : BSl w A l) (hr : BSl w B r) (hlr : l.length = r.length) (hlen : l.length ≤ 1000000) : Calls Tryz.prog 60 #[.slice A l.length cap, .slice B r.length cap2] w (BLP (eithL l r) w) := by
  obtain ⟨i0, hi0, hz⟩ := Option.map_eq_some_iff.1 infoBo
  simp only [Prod.mk.injEq] at hz
  obtain ⟨hz0, hz1, hz2⟩ := hz
  have HI := Lib.hid hi0
  have HZ0 := Lib.hid hz0
  have HZ1 := Lib.hid hz1
  have HZ2 := Lib.hid hz2
  have HL := Lib.hid h
  have HR := Lib.hid hr
  rw [← hlr]
  obtain ⟨n, hn⟩ : ∃ n, n = l.length := ⟨_, rfl⟩
  obtain ⟨tgt, ht⟩ : ∃ t, t = eithL l r := ⟨_, rfl⟩
  have HN := Lib.hid hn
  have HN2 := Lib.hid (show n = r.length by rw [hn, hlr])
  have HT := Lib.hid ht
  have HTL := Lib.hid (show tgt.length = n by rw [ht, hn]; simp [eithL, hlr])
  rw [← hn] at hlen ⊢
  rw [← ht]
  clear h hr hn ht hlr hi0 hz0 hz1 hz2
  go_enter Tryz.func60, Tryz.ntmps60
  go_wp2_with (at_make; refine wpList_make_full _ rfl _ _ 39 rfl w.heap.size 4 i0 (.bool false) 1 Tryz.underlying39 HI.out HZ0.out HZ1.out .i64 .i64 (n : Int) (n : Int) n rfl rfl rfl rfl (by rw [HZ2.out]; omega) (by unfold maxLen; omega) (Nat.le_refl _) ?_)
  intro w1 ho1 hg1
  rw [made_one] at ho1
  have HB1 := Lib.hid ((Below.refl w.heap.size w).grown hg1 (Nat.le_refl _) (fun k hk => by cases hk))
  have HX1 := Lib.hid (FilR.start (tgt := tgt) (owns_full ho1) (Nat.le_refl _) HB1.out)
  clear ho1 hg1
  go_wp2
  go_loopw [12] (fun i wr => FilRel w.heap.size n tgt w i wr) (fun i _ => n - (intOf i).toNat)
  case atStart => exact ⟨0, rfl, Nat.zero_le _, HX1.out⟩
  case round =>
    obtain ⟨k, rfl, hk, hF⟩ := hrel
    by_cases hlt : k < n
    · have d1 : decide (k < n) = true := by simp; omega
      have kk : k < l.length := by rw [← HN.out]; exact hlt
      have kk2 : k < r.length := by rw [← HN2.out]; exact hlt
      obtain ⟨g, o, rfl, c1⟩ := HL.out.below hF.blw k kk
      obtain ⟨g', o', rfl, c1'⟩ := HR.out.below hF.blw k kk2
      have HLL := Lib.hid HL
      have HRR := Lib.hid HR
      clear HL HR
      obtain ⟨⟨b0, c2⟩, f2, g2⟩ := hF.cell hlt
      have HE := Lib.hid (show (l[k] || r[k]) = tgt.getD k false by rw [HT.out, eithL, List.getD_eq_getElem?_getD, List.getElem?_zipWith, List.getElem?_eq_getElem kk, List.getElem?_eq_getElem kk2]; rfl)
      generalize l[k] = b at *
      generalize r[k] = b2 at *
      have HF := Lib.hid hF
      clear hF hk
      cases b
      all_goals
        go_wp2_with fail
        go_roundw
        case rel => exact ⟨k + 1, by go_num, by omega, HF.out.step hlt (by simpa using HE.out)⟩
        case measure => simp [intOf]; omega
    · have d1 : decide (k < n) = false := by simp; omega
      have hkn : k = n := by omega
      subst hkn
      have HF := Lib.hid hF
      clear hF hk
      go_wp2_with fail
      go_ret
      exact blp_ret (HF.out.done HTL.out) HTL.out HF.out.blw
end Go.Proofs.YtkddaobbjfnckaaGreatDoor
