/-
  A slice of acts that came in, as a walk takes it.
-/
import Derived.Test.YtmdmanhjgbpgoaaDoorP1
import Derived.Test.YtmdmanhjgbpgoaaDoorR4
import Derived.Deep.Slices
namespace Go.Proofs.YtmdmanhjgbpgoaaDoor
open Go.ChangeShapes Go.WideShapes Go.ChangeAt Go.RowKit

theorem cells38 : Tryd.prog.cellsOf 38 = 4 := by kernel_rfl
theorem cells22 : Tryd.prog.cellsOf 22 = 1 := by kernel_rfl
theorem reads_cell {H : Type} {enc : TypeId × Value → H} {W : World} {fuel : Nat} {c : Value} {x : DataW H × List MemPlace}
    (hf : DataW.trod enc Tryd.prog W 0 (fun _ => true) true fuel 22 [c] = some x) : ∃ xs : List Int, Reads W c xs ∧ xs.length ≤ maxLen := by
  have hf' := hf
  rcases open_ints Tryd.underlying22 Tryd.underlying3 cells3 hf with ⟨hcs, hx⟩ | ⟨a, len', cap', zs, hcs, _⟩
  · injection hcs with h1 _
    subst h1
    exact reads_of (d := x.1) (p := x.2) ⟨fuel, hf'⟩
  · injection hcs with h1 _
    subst h1
    exact reads_of (d := x.1) (p := x.2) ⟨fuel, hf'⟩
theorem four_of {l : List Value} (h : l.length = 4) : ∃ c0 c1 c2 c3, l = [c0, c1, c2, c3] := by
  rcases l with _ | ⟨c0, _ | ⟨c1, _ | ⟨c2, _ | ⟨c3, _ | ⟨c4, r⟩⟩⟩⟩⟩
  · simp at h
  · simp at h
  · simp at h
  · simp at h
  · exact ⟨c0, c1, c2, c3, rfl⟩
  · simp at h
theorem spot_of_cells {W : World} {a : Addr} {cs : List Value} (h : W.cells? 0 (a.add 0) 4 = some cs) : a.spot = none := by
  obtain ⟨_, hl, hc⟩ := World.cells?_some h
  have h0 := hc 0 (by omega)
  cases hx : cs[0]? with
  | none => rw [List.getElem?_eq_none_iff] at hx; omega
  | some v =>
    rw [hx] at h0
    have := spot_none h0
    simpa [Addr.add] using this
theorem acts_of {H : Type} {enc : TypeId × Value → H} {W : World} {a0 : Option Addr} {len cap : Nat} {d : DataW H} {p : List MemPlace}
    (h : DataW.Trod enc Tryd.prog W 0 (fun _ => true) true 23 (.slice a0 len cap) d p) : ∃ l : List ActV, ReadsActs W (.slice a0 len cap) l ∧ l.length ≤ maxLen := by
  obtain ⟨fuel, hf⟩ := h
  rcases Go.Deep.open_slice Tryd.underlying23 hf with ⟨hcs, hx⟩ | ⟨a, len', cap', m, nf, D, Pl, hcs, _, hl, hm, hmm, hx, hel⟩
  · simp [Value.cells] at hcs
    obtain ⟨rfl, rfl, rfl⟩ := hcs
    exact ⟨[], ⟨none, 0, rfl, fun k hk => absurd hk (by simp)⟩, by simp⟩
  · simp [Value.cells] at hcs
    obtain ⟨rfl, rfl, rfl⟩ := hcs
    simp only [if_true] at hmm
    have hone : ∀ i, ∃ A : ActV, i < len → a.spot = none ∧ ActAt W a.block (a.off + 4 * i) A := by
      intro i
      by_cases hi : i < len
      · obtain ⟨cs', hcs', htr⟩ := hel i (by omega)
        rw [cells38] at hcs'
        obtain ⟨xs, n', _, _, hlen, hxl, hfld⟩ := DataW.trod_struct Tryd.underlying38 htr
        rw [cells38] at hlen
        obtain ⟨_, _, hcell⟩ := World.cells?_some hcs'
        obtain ⟨c0, c1, c2, c3, rfl⟩ := four_of hlen
        have g0 : DataW.trod enc Tryd.prog W 0 (fun _ => true) true n' 3 (([c0, c1, c2, c3].drop 0).take (Tryd.prog.cellsOf 3)) = xs[0]? := hfld 0 _ rfl
        have g1 : DataW.trod enc Tryd.prog W 0 (fun _ => true) true n' 3 (([c0, c1, c2, c3].drop 1).take (Tryd.prog.cellsOf 3)) = xs[1]? := hfld 1 _ rfl
        have g2 : DataW.trod enc Tryd.prog W 0 (fun _ => true) true n' 3 (([c0, c1, c2, c3].drop 2).take (Tryd.prog.cellsOf 3)) = xs[2]? := hfld 2 _ rfl
        have g3 : DataW.trod enc Tryd.prog W 0 (fun _ => true) true n' 22 (([c0, c1, c2, c3].drop 3).take (Tryd.prog.cellsOf 22)) = xs[3]? := hfld 3 _ rfl
        have hx4 : xs.length = 4 := hxl
        rw [cells3] at g0 g1 g2
        rw [cells22] at g3
        rw [List.getElem?_eq_getElem (by omega)] at g0 g1 g2 g3
        obtain ⟨k0, e0, _, _⟩ := DataW.trod_int Tryd.underlying3 g0
        obtain ⟨k1, e1, _, _⟩ := DataW.trod_int Tryd.underlying3 g1
        obtain ⟨k2, e2, _, _⟩ := DataW.trod_int Tryd.underlying3 g2
        obtain ⟨ys, hr, hyl⟩ := reads_cell g3
        simp only [List.drop_zero, List.drop_succ_cons, List.take_succ_cons, List.take_zero, List.cons.injEq, and_true] at e0 e1 e2
        subst e0 e1 e2
        have q0 := hcell 0 (by omega)
        have q1 := hcell 1 (by omega)
        have q2 := hcell 2 (by omega)
        have q3 := hcell 3 (by omega)
        have hs : a.spot = none := by
          obtain ⟨cs0, hcs0, _⟩ := hel 0 (by omega)
          rw [Nat.zero_mul, cells38] at hcs0
          exact spot_of_cells hcs0
        have ea : a.add (i * 4) = ⟨a.block, a.off + 4 * i, none⟩ := by rw [add_eq a hs, Nat.mul_comm]
        have eb : ∀ j, (⟨a.block, a.off + 4 * i, none⟩ : Addr).add j = ⟨a.block, a.off + 4 * i + j, none⟩ := fun j => add_eq _ rfl j
        rw [ea, eb] at q0 q1 q2 q3
        exact ⟨⟨k0, k1, k2, c3, ys⟩, fun _ => ⟨hs, q0, q1, q2, q3, hr, hyl⟩⟩
      · exact ⟨default, fun h => absurd h hi⟩
    obtain ⟨F, hF⟩ := Classical.axiomOfChoice hone
    have hll : ((List.range len).map F).length = len := by simp
    refine ⟨(List.range len).map F, ⟨some a, cap, by rw [hll], ?_⟩, by rw [hll]; omega⟩
    intro k hk
    rw [hll] at hk
    have hk' := hF k hk
    refine ⟨a, rfl, hk'.1, ?_⟩
    have e : ((List.range len).map F).getD k default = F k := by
      rw [List.getD_eq_getElem?_getD, List.getElem?_map, List.getElem?_range hk]; rfl
    rw [e]; exact hk'.2
end Go.Proofs.YtmdmanhjgbpgoaaDoor
