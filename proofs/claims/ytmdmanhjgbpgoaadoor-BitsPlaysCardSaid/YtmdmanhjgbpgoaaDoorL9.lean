/-
  Copy of a set in memory: another one with the same, in memory of its own; Same by what two sets have.
-/
import Derived.Test.YtmdmanhjgbpgoaaDoorL8
namespace Go.Proofs.YtmdmanhjgbpgoaaDoor
open Go.RowKit

/-- What Clone hands back. -/
def CloneF (ws : List Nat) (w : World) (e : Ending) (w' : World) : Prop :=
  ∃ g cap cur, e = .returned (.slice (some ⟨g, 0, none⟩) ws.length cap) ∧ w.heap.size ≤ g ∧ w'.heap[g]? = some (.cells cur 60 (0, 0)) ∧ ws.length ≤ cap ∧ cap ≤ maxLen ∧ cur.size = cap ∧ (∀ k, k < ws.length → cur[k]? = some (W64 (ws.getD k 0))) ∧ Below w.heap.size w w'

set_option maxHeartbeats 400000 in
set_option maxRecDepth 100000 in
theorem clone_at {w : World} {c cap : Nat} {ws : List Nat} (hl : ws.length ≤ 64) (hv : ∀ k, k < ws.length → w.cell? ⟨c, k, none⟩ = some (.int .u64 ((ws.getD k 0 : Nat) : Int))) (hc : c < w.heap.size) :
    Calls Tryd.prog 41 #[.slice (some ⟨c, 0, none⟩) ws.length cap] w (CloneF ws w) := by
  obtain ⟨i0, hi0, hz⟩ := Option.map_eq_some_iff.1 info60
  simp only [Prod.mk.injEq] at hz
  obtain ⟨hz0, hz1, hz2⟩ := hz
  have HZ0 := Lib.hid hz0
  have HZ1 := Lib.hid hz1
  have HZ2 := Lib.hid hz2
  have HI := Lib.hid hi0
  have HV := Lib.hid hv
  clear hz0 hz1 hz2 hi0 hv
  have hnn := fun W : World => Go.Lib.run_eql_slice_nil (P := Tryd.prog) W 62 60 (some ⟨c, 0, none⟩) ws.length cap 0 0 Tryd.underlying62
  simp only [Option.isNone_some] at hnn
  go_enter Tryd.func41, Tryd.ntmps41
  go_wp2_with (at_builtin; refine wpList_append_own _ rfl _ _ 62 rfl w.heap.size 60 i0 (.int .u64 0) 1 8 Tryd.underlying62 HI.out HZ0.out HZ1.out HZ2.out rfl (by decide) _ _ _ rfl (World.ownsRow_made w #[] 0 (Nat.le_refl _) (by unfold maxLen; omega) (by simp)) ⟨c, 0, none⟩ ws.length cap (ws.map W64) rfl (by simp) ?c1 ?c2 ?c3 ?c4 ?c5 ?_)
  case c1 =>
    intro j u hj
    have hjl : j < ws.length := by
      rcases Nat.lt_or_ge j ws.length with h | h
      · exact h
      · rw [List.getElem?_eq_none (by simpa using h)] at hj; cases hj
    have := HV.out j hjl
    rw [List.getElem?_map, List.getElem?_eq_getElem hjl] at hj
    simp only [Option.map_some, Option.some.injEq] at hj
    subst hj
    have hadd : (⟨c, 0, none⟩ : Addr).add j = ⟨c, j, none⟩ := by
      by_cases hj0 : j = 0 <;> simp [Addr.add, hj0]
    rw [hadd, Below.cell (B := w.heap.size) (w := w) ((Below.refl _ _).alloc (Nat.le_refl _) _) hc]
    simpa [W64, List.getD_eq_getElem?_getD, List.getElem?_eq_getElem hjl] using this
  case c2 =>
    intro u hu
    obtain ⟨x, _, rfl⟩ := List.mem_map.1 hu
    rfl
  case c3 => unfold maxLen; omega
  case c4 => omega
  case c5 => simp
  intro v' w1 hown hgrow hnil
  have HB := Lib.hid (((Below.refl w.heap.size w).alloc (Nat.le_refl _) (.cells #[] 60)).grown hgrow (by simp) (fun k hk => by simp [Value.ownBlock] at hk; omega))
  have HO := Lib.hid hown
  have HNN := Lib.hid hnil
  clear hown hgrow hnil
  go_wp2
  go_ret
  rcases HO.out.2 with ⟨h1, h2⟩ | ⟨g, cp, cur, h1, h2, h3, h4, h5, h6, h7⟩
  · exact (HNN.out h1).elim
  · subst h1
    refine ⟨g, cp, cur, by simp, h2, h3, by simpa using h4, h5, by simpa using h6, ?_, HB.out⟩
    intro k hk
    have hk' : (cur.toList.take (ws.length * 1))[k]? = (ws.map W64)[k]? := by rw [h7]
    rw [List.getElem?_take, if_pos (by omega)] at hk'
    have : cur[k]? = (ws.map W64)[k]? := by simpa using hk'
    rw [this, List.getElem?_map, List.getElem?_eq_getElem hk]
    simp [List.getD_eq_getElem?_getD, List.getElem?_eq_getElem hk]

/-- What Copy hands back. -/
def CopyF (size : Nat) (f : Nat → Bool) (w : World) (e : Ending) (w' : World) : Prop :=
  ∃ b c, e = .returned (.pointer (some ⟨b, 0, none⟩)) ∧ w.heap.size ≤ b ∧ w.heap.size ≤ c ∧ SetF w' b c size f ∧ Below w.heap.size w w'

set_option maxHeartbeats 1000000 in
theorem copy_set {w : World} {b c size : Nat} {f : Nat → Bool} (h : SetF w b c size f) : Calls Tryd.prog 29 #[.pointer (some ⟨b, 0, none⟩)] w (CopyF size f w) := by
  obtain ⟨ws, hw, hm⟩ := h
  have hsz := hw.csize
  obtain ⟨cap, hs, hcap, _⟩ := hw.cslice
  have hl : ws.length ≤ 64 := by have := hw.len; have := hw.le; omega
  have hbl := hw.lt_b
  have HW := Lib.hid hw
  have HM := Lib.hid hm
  clear hw hm
  go_enter Tryd.func29, Tryd.ntmps29
  go_wp2
  go_region_held3 (fun w' => w'.cell? ⟨b, 0, none⟩ = some (.int .i64 (size : Int)) ∧ w'.cell? ⟨b, 1, none⟩ = some (.slice (some ⟨c, 0, none⟩) ws.length cap)) (first | exact ⟨hsz, hs⟩ | go_keep) ((go_at_call 41; refine (clone_at hl (by exact HW.out.cword) (by exact hbl.2)).mono ?_; rintro e w1 ⟨g, cp, cur, rfl, hg, h3, h4, h5, h6, h7, hb⟩; have e0 := (hb.cell (p := ⟨b, 0, none⟩) (by exact hbl.1)).trans hsz; have e1 := (hb.cell (p := ⟨b, 1, none⟩) (by exact hbl.1)).trans hs))
  all_goals go_wp2
  all_goals go_ret
  all_goals
    have hbz := hb.size
    have hg' : w.heap.size ≤ g := hg
    have hbz' : w.heap.size ≤ w1.heap.size := hbz
    have hgl := (Array.getElem?_eq_some_iff.1 h3).1
    have hw := HW.out
    refine ⟨w1.heap.size, g, rfl, hbz', hg', ⟨ws, ⟨by omega, hw.le, hw.len, hw.lt, hw.room, cp, cur, heap_alloc_new _ _, ?_, h4, h5, h6, h7⟩, HM.out⟩, ?_⟩
    · rw [Below.heap_alloc _ _ _ hgl]; exact h3
    · exact (show Below w.heap.size w w1 from ⟨hb.os, hb.tape, hb.output, hb.size, hb.block⟩).alloc hbz' _
end Go.Proofs.YtmdmanhjgbpgoaaDoor
