/-
  The law BitsPlays answers true for every size, all first numbers and all calls.
-/
import Derived.Test.YtmdmanhjgbpgoaaDoorN5
import Derived.Test.YtmdmanhjgbpgoaaDoorN6
namespace Go.Proofs.YtmdmanhjgbpgoaaDoor
open Go.RowKit

theorem bitsPlays_yes {w : World} (i : Int) {vf vl : Value} {xs : List Int} {l : List ActV} (hG : Glob w) (hvf : Reads w vf xs) (hxl : xs.length ≤ maxLen) (hvl : ReadsActs w vl l) (hll : l.length ≤ maxLen) :
    Calls Tryd.prog 3 #[.int .i64 i, vf, vl] w fun e w' => e = .returned (.bool true) ∧ Below w.heap.size w w' := by
  have hvf' := hvf
  obtain ⟨fa, fc, hv, _⟩ := hvf'
  by_cases h1 : farB l = true ∨ 200 < xs.length ∨ (300 < i ∧ i ≤ 4096)
  · rw [hv]
    exact plays_far i hG hvl hll h1 hxl
  · have hf : farB l = false := by
      cases hx : farB l with
      | false => rfl
      | true => exact absurd (.inl hx) h1
    have hx2 : xs.length ≤ 200 := by
      rcases Nat.lt_or_ge 200 xs.length with h | h
      · exact absurd (.inr (.inl h)) h1
      · exact h
    by_cases hs : i < 0 ∨ 4096 < i
    · rw [hv]
      exact plays_size i hG hvl hll hf hx2 hs
    · have h3 : ¬ (300 < i ∧ i ≤ 4096) := fun h => h1 (.inr (.inr h))
      obtain ⟨n, rfl⟩ := Int.eq_ofNat_of_zero_le (show 0 ≤ i by omega)
      by_cases hin : Within n xs
      · exact bitsPlays_loop n (by omega) hG hvf hvl hf hx2 hin
      · exact plays_not n (by omega) hG hvf hvl hll hf hx2 hin
end Go.Proofs.YtmdmanhjgbpgoaaDoor
