/-
  A list of 64-bit numbers that came in, as a walk takes it.
-/
import Derived.Test.YtcaognakjigmbaaDoorP1
import Derived.Test.YtcaognakjigmbaaDoorN2
import Derived.Test.YtcaognakjigmbaaDoorN4
namespace Go.Proofs.YtcaognakjigmbaaDoor
open Go.ChangeShapes Go.WideShapes Go.ChangeAt Go.RowKit

theorem cellsI : Tryd.prog.cellsOf 2 = 1 := by kernel_rfl

theorem r64_of {H : Type} {enc : TypeId × Value → H} {W : World} {a0 : Option Addr} {len cap : Nat} {d : DataW H} {p : List MemPlace}
    (h : DataW.Trod enc Tryd.prog W 0 (fun _ => true) true 32 (.slice a0 len cap) d p) :
    ∃ xs : List Int, xs.length = len ∧ R64 W (.slice a0 len cap) xs ∧ len ≤ maxLen ∧ All xs ∧ len ≤ cap ∧ (a0 = none → cap = 0) := by
  obtain ⟨fuel, hf⟩ := h
  rcases open_ints (x := (d, p)) Tryd.underlying32 Tryd.underlying2 cellsI hf with ⟨hcs, hx⟩ | ⟨a, len', cap', zs, hcs, _, hl, hm, hz, hx, hcell, hwz⟩
  · simp [Value.cells] at hcs
    obtain ⟨rfl, rfl, rfl⟩ := hcs
    exact ⟨[], rfl, R64.empty, Nat.zero_le _, fun k hk => absurd hk (by simp), Nat.le_refl _, fun _ => rfl⟩
  · simp [Value.cells] at hcs
    obtain ⟨rfl, rfl, rfl⟩ := hcs
    simp only [if_true] at hz
    have hlen : (zs.take len).length = len := by rw [List.length_take]; omega
    refine ⟨zs.take len, hlen, ⟨some a, cap, by rw [hlen], ?_⟩, by omega, ?_, hl, fun h => by cases h⟩
    · intro k hk
      rw [hlen] at hk
      have h0 := hcell 0 (by omega)
      have hs : a.spot = none := by
        have := spot_none h0
        simpa [Addr.add] using this
      have hk' := hcell k (by omega)
      refine ⟨a, rfl, hs, ?_⟩
      rw [add_eq a hs k] at hk'
      rw [hk']
      simp [List.getD_eq_getElem?_getD, hk]
    · intro k hk
      rw [hlen] at hk
      have hm' : zs.getD k 0 ∈ zs := by
        rw [List.getD_eq_getElem?_getD, List.getElem?_eq_getElem (by omega)]
        exact List.getElem_mem _
      have := i64_wf (hwz _ hm')
      rw [List.getD_eq_getElem?_getD, List.getElem?_take_of_lt (by omega), ← List.getD_eq_getElem?_getD]
      exact this

theorem sums_all {xs : List Int} {ad : Option Addr} {cap : Nat} (n : Int) (hn : 0 ≤ n ∧ n ≤ 255) (w : World) (hG : Glob w) (hv : R64 w (.slice ad xs.length cap) xs) (hcap : xs.length ≤ cap) (h0 : ad = none → cap = 0) (hm : xs.length ≤ maxLen) (hal : All xs) :
    Calls Tryd.prog 7 #[.slice ad xs.length cap, .int .u8 n] w (LawF w) := by
  obtain ⟨k, rfl⟩ := Int.eq_ofNat_of_zero_le hn.1
  by_cases hlen : 1000 < xs.length
  · exact sums_long _ ad cap k w hG hlen hm
  by_cases hz : xs.length = 0
  · rw [hz]
    exact sums_none ad cap k w hG h0 (by omega)
  · obtain ⟨p, rfl, hs, _⟩ := hv.at_ 0 (by omega)
    exact sums_yes k (by omega) w hG hv hs hcap hal (by omega)
end Go.Proofs.YtcaognakjigmbaaDoor
