/-
  Grow from nil, Concat of two, Contains; walked.
-/
import Derived.Test.YtkddaobbjfnckaaGreatDoorOd
import Derived.Test.YtkddaobbjfnckaaGreatDoorO9
import Derived.Lib.AppendZeros
namespace Go.Proofs.YtkddaobbjfnckaaGreatDoor
open Go.RowKit Go.Sort Go.Lib

def iv (x : Int) : Value := .int .i64 x
def CapOk (B : Option Addr) (n cap : Nat) : Prop := n ≤ cap ∧ (B = none → cap = 0)
theorem infoI : (Tryz.prog.info? 3).map (fun i => (i.zero, i.size, i.bytes)) = some (some (.int .i64 0), 1, 8) := by kernel_rfl
theorem underI : Tryz.prog.underlying 3 = some (.int .i64) := by kernel_rfl
theorem isl_news {w : World} {g o : Nat} {l : List Int} (h : ISl w (some ⟨g, o, none⟩) l) : ∀ (j : Nat) (u : Value), (l.map iv)[j]? = some u → w.cell? ((⟨g, o, none⟩ : Addr).add j) = some u := by
  intro j u hu
  rw [List.getElem?_map] at hu
  by_cases hj : j < l.length
  · rw [List.getElem?_eq_getElem hj] at hu
    injection hu with hu
    subst hu
    obtain ⟨g', o', e, hc⟩ := h j hj
    injection e with e
    injection e with e1 e2
    subst e1 e2
    have e3 : (⟨g, o, none⟩ : Addr).add j = ⟨g, o + j, none⟩ := by
      unfold Addr.add
      by_cases hj : j = 0 <;> simp [hj]
    rw [e3]; exact hc
  · rw [List.getElem?_eq_none (by omega)] at hu; cases hu
theorem iv_one (l : List Int) : ∀ u ∈ l.map iv, u.oneCell' = true := by
  intro u hu
  obtain ⟨b, _, rfl⟩ := List.mem_map.1 hu
  rfl
theorem isl_owns {w : World} {lo n : Nat} {v : Value} {l : List Int} (h : w.ownsRow lo 3 1 v n (l.map iv)) : ∃ A cap, v = .slice A n cap ∧ CapOk A n cap ∧ ISl w A l ∧ l.length = n := by
  have hl : l.length = n := by have := h.1; simpa using this
  subst hl
  rcases h.2 with ⟨rfl, hn⟩ | ⟨g, cap, cur, hv, _, hb, hc, _⟩
  · exact ⟨none, 0, by rw [hn], ⟨by omega, fun _ => rfl⟩, fun i hi => absurd hi (by omega), rfl⟩
  · subst hv
    refine ⟨_, cap, rfl, ⟨hc, fun h => by cases h⟩, fun i hi => ⟨g, 0, rfl, ?_⟩, rfl⟩
    have h1 := h.cells (g := g) rfl i (.int .i64 l[i]) (by rw [List.getElem?_map, List.getElem?_eq_getElem hi]; rfl)
    have e : (⟨g, 0, none⟩ : Addr).add i = ⟨g, i, none⟩ := by
      unfold Addr.add
      by_cases hj : i = 0 <;> simp [hj]
    rw [e] at h1
    rw [Nat.zero_add]
    exact h1
set_option maxHeartbeats 4000000 in
set_option maxRecDepth 100000 in
theorem grow_any {n : Nat} (w : World) (h1 : 1 ≤ n) (h2 : n ≤ 1000000) : Calls Tryz.prog 54 #[.slice none 0 0, .int .i64 (n : Int)] w fun e w' => ∃ v, e = .returned v ∧ w'.ownsRow w.heap.size 3 1 v 0 [] ∧ Below w.heap.size w w' := by
  obtain ⟨i0, hi0, hz⟩ := Option.map_eq_some_iff.1 infoI
  simp only [Prod.mk.injEq] at hz
  obtain ⟨hz0, hz1, hz2⟩ := hz
  have HRUN := Lib.hid (fun (W : World) (ty : TypeId) => Lib.run_append_nil_zeros (P := Tryz.prog) W 23 3 ty 3 i0 (.int .i64 0) .i64 .i64 Tryz.underlying23 underI hi0 hz0 n (by omega) (by rw [hz1]; omega) (by omega) (by rw [hz2]; omega))
  have d0 : decide ((n : Int) < 0) = false := by simp
  have d1 : decide (0 < n) = true := by simp; omega
  have HGE := Lib.hid (grownCap_ge w n 0 3)
  have HLE := Lib.hid (grownCap_le_maxLen w n 0 3 (by unfold maxLen; omega))
  have HO := Lib.hid (show ∀ cap, n ≤ cap → cap ≤ maxLen → (w.drew.alloc (.cells (Builtin.zeroCells (Value.int .i64 0).cells n ++ Builtin.zeroCells (Value.int .i64 0).cells (cap - n)) 3)).ownsRow w.heap.size 3 1 (.slice (some ⟨w.heap.size, 0, none⟩) 0 cap) 0 [] from fun cap h3 h4 => World.ownsRow_made w.drew _ cap (Nat.le_refl _) h4 (by rw [Array.size_append, size_zeroCells, size_zeroCells]; simp [Value.cells]; omega))
  clear hi0 hz0 hz1 hz2
  go_enter Tryz.func54, Tryz.ntmps54
  go_wp2_with (at_builtin; refine Lib.wpList_append_run _ rfl _ _ _ _ rfl _ _ rfl rfl _ _ (HRUN.out _ _) ?_)
  obtain ⟨gc, hgc⟩ : ∃ gc, gc = grownCap w n 0 3 := ⟨_, rfl⟩
  rw [← hgc]
  rw [← hgc] at HGE HLE
  have HOO := Lib.hid (HO.out gc HGE.out HLE.out)
  have HBB := Lib.hid (show Below w.heap.size w (w.drew.alloc (.cells (Builtin.zeroCells (Value.int .i64 0).cells n ++ Builtin.zeroCells (Value.int .i64 0).cells (gc - n)) 3)) from (Below.refl _ _).drew.alloc (Nat.le_refl _) _)
  have hle := HGE.out
  clear HO HRUN hgc
  go_wp2
  go_ret
  exact ⟨_, rfl, HOO.out, HBB.out⟩
/-- What Concat has summed, what it has laid. -/
def CsRel (n m : Nat) (w : World) (z i : Value) (wr : World) : Prop := w = wr ∧ ((i = .int .i64 0 ∧ z = .int .i64 0) ∨ (i = .int .i64 1 ∧ z = .int .i64 (n : Int)) ∨ (i = .int .i64 2 ∧ z = .int .i64 ((n + m : Nat) : Int)))
def CcRel (s l : List Int) (w : World) (v i : Value) (wr : World) : Prop := Below w.heap.size w wr ∧ ((i = .int .i64 0 ∧ wr.ownsRow w.heap.size 3 1 v 0 []) ∨ (i = .int .i64 1 ∧ wr.ownsRow w.heap.size 3 1 v s.length (s.map iv)) ∨ (i = .int .i64 2 ∧ wr.ownsRow w.heap.size 3 1 v (s.length + l.length) ((s ++ l).map iv)))
end Go.Proofs.YtkddaobbjfnckaaGreatDoor
