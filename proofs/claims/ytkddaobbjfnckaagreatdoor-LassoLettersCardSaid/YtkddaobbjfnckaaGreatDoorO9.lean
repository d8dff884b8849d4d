/-
  Clone of truths, next; walked.
-/
import Derived.Test.YtkddaobbjfnckaaGreatDoorO8
import Derived.Deep.RegionLaw
import Derived.Deep.AppendLies
import Derived.Laws.AppendOwnNone
import Derived.Maps.AppendAt
import Derived.Lib.SliceRun
namespace Go.Proofs.YtkddaobbjfnckaaGreatDoor
open Go.RowKit Go.Sort

theorem bsl_news {w : World} {g o : Nat} {l : List Bool} (h : BSl w (some ⟨g, o, none⟩) l) : ∀ (j : Nat) (u : Value), (l.map bv)[j]? = some u → w.cell? ((⟨g, o, none⟩ : Addr).add j) = some u := by
  intro j u hu
  rw [List.getElem?_map] at hu
  by_cases hj : j < l.length
  · rw [List.getElem?_eq_getElem hj] at hu
    injection hu with hu
    subst hu
    obtain ⟨g', o', e, hc⟩ := h j hj
    injection e with e
    injection e with e1 e2
    subst e1 e2
    have e3 : (⟨g, o, none⟩ : Addr).add j = ⟨g, o + j, none⟩ := by
      unfold Addr.add
      by_cases hj : j = 0 <;> simp [hj]
    rw [e3]; exact hc
  · rw [List.getElem?_eq_none (by omega)] at hu; cases hu
theorem bv_one (l : List Bool) : ∀ u ∈ l.map bv, u.oneCell' = true := by
  intro u hu
  obtain ⟨b, _, rfl⟩ := List.mem_map.1 hu
  rfl
set_option maxHeartbeats 4000000 in
theorem cloneb_any {g o : Nat} {l : List Bool} {cap : Nat} (w : World) (h : BSl w (some ⟨g, o, none⟩) l) (hlen : l.length ≤ 1000000) :
    Calls Tryz.prog 84 #[.slice (some ⟨g, o, none⟩) l.length cap] w fun e w' => ∃ v, e = .returned v ∧ w'.ownsRow w.heap.size 4 1 v l.length (l.map bv) ∧ Below w.heap.size w w' := by
  obtain ⟨i0, hi0, hz⟩ := Option.map_eq_some_iff.1 infoBo
  simp only [Prod.mk.injEq] at hz
  obtain ⟨hz0, hz1, hz2⟩ := hz
  have HI := Lib.hid hi0
  have HZ0 := Lib.hid hz0
  have HZ1 := Lib.hid hz1
  have HZ2 := Lib.hid hz2
  have q22 : ∀ (w : World) (a : Option Addr) (n c n' c' : Nat), (binOp .eql 39 (.slice a n c) (.slice none n' c')).run Tryz.prog w = .ok (.bool a.isNone) w := fun w a n c n' c' => Lib.run_eql_slice_nil w _ _ a n c n' c' Tryz.underlying39
  have HNW := Lib.hid (bsl_news (h.below (below_alloc w (.cells #[] 4))))
  obtain ⟨zs, hzs⟩ : ∃ zs, zs = l.map bv := ⟨_, rfl⟩
  have HZL := Lib.hid (show zs.length = l.length * 1 by rw [hzs]; simp)
  have HON := Lib.hid (show ∀ u ∈ zs, u.oneCell' = true by rw [hzs]; exact bv_one l)
  rw [← hzs] at HNW ⊢
  obtain ⟨n, hn⟩ : ∃ n, n = l.length := ⟨_, rfl⟩
  rw [← hn] at hlen HZL ⊢
  clear hi0 hz0 hz1 hz2 h hzs hn
  go_enter Tryz.func84, Tryz.ntmps84
  go_wp2_with (at_builtin; refine wpList_append_own _ rfl _ _ 39 rfl w.heap.size 4 i0 (.bool false) 1 1 Tryz.underlying39 HI.out HZ0.out HZ1.out HZ2.out rfl (by decide) _ _ _ rfl (World.ownsRow_made w #[] 0 (Nat.le_refl _) (Nat.zero_le _) rfl) ⟨g, o, none⟩ n cap zs rfl HZL.out HNW.out HON.out (by unfold maxLen; omega) (by omega) (by simp) ?_)
  intro v' w1 hown hgrow hnil
  have HO := Lib.hid (show w1.ownsRow w.heap.size 4 1 v' n zs by simpa using hown)
  have HB := Lib.hid (((Below.refl _ w).alloc (Nat.le_refl _) _).grown hgrow (by simp) (by intro k hk; simp [Value.ownBlock] at hk; omega))
  clear hown hgrow hnil
  go_wp2
  go_ret
  exact ⟨v', rfl, HO.out, HB.out⟩
end Go.Proofs.YtkddaobbjfnckaaGreatDoor
