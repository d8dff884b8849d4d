/-
  What the smallest functions under a table of vectors do: hash, slices.Equal, the reference's Same, slices.Clone; for every slice of 32-bit numbers that can be read, nil too.
-/
import Derived.Test.YtoppjkdlloddmaaDoorProg
import Derived.Test.YtoppjkdlloddmaaDoorM1
import Derived.WalkKit
import Derived.WalkSpells
import Derived.WalkLawsBesides
import Derived.Deep.QuietTactic
import Derived.BigQuiet
import Derived.Lib.Hide
import Derived.Deep.Draws
import Derived.Deep.OwnRows
import Derived.Below
import Derived.Laws.OwnMore
namespace Go.Proofs.YtoppjkdlloddmaaDoor
open Go.RowKit

theorem ret_int {k : IntKind} {a b : Int} (h : a = b) : Ending.returned (.int k a) = .returned (.int k b) := by rw [h]
theorem below_drewN {B : Nat} {a w : World} (h : Below B a w) (n : Nat) : Below B a (w.drewN n) := ⟨h.os, h.tape, h.output, h.size, h.block⟩

/-- A slice of 32-bit numbers reads as this list. -/
def R32 (w : World) (v : Value) (xs : List Int) : Prop :=
  ∃ ad cap, v = .slice ad xs.length cap ∧ ∀ k, k < xs.length → ∃ p, ad = some p ∧ p.spot = none ∧ w.cell? ⟨p.block, p.off + k, none⟩ = some (.int .i32 (xs.getD k 0))
theorem R32.drewN {w : World} {v : Value} {xs : List Int} (h : R32 w v xs) (k : Nat) : R32 (w.drewN k) v xs := h
theorem R32.below {w w' : World} {v : Value} {xs : List Int} (h : R32 w v xs) (hb : Below w.heap.size w w') : R32 w' v xs := by
  obtain ⟨ad, cap, rfl, h2⟩ := h
  refine ⟨ad, cap, rfl, fun k hk => ?_⟩
  obtain ⟨p, rfl, hp, hc⟩ := h2 k hk
  exact ⟨p, rfl, hp, (hb.cell (p := ⟨p.block, p.off + k, none⟩) (World.block_lt_of_cell? w _ hc)).trans hc⟩
def V32 (x : Int) : Value := .int .i32 x
theorem R32.of_owns {w : World} {base : Nat} {v : Value} {xs : List Int} (h : w.ownsRow base 21 1 v xs.length (xs.map V32)) : R32 w v xs := by
  obtain ⟨h1, h2⟩ := h
  rcases h2 with ⟨rfl, hn⟩ | ⟨g, cap, cur, rfl, hg, hh, hc, hm, hs, ht⟩
  · refine ⟨none, 0, by simp [hn], ?_⟩
    intro k hk
    omega
  · refine ⟨some ⟨g, 0, none⟩, cap, rfl, ?_⟩
    intro k hk
    refine ⟨_, rfl, rfl, ?_⟩
    have hk' : (cur.toList.take (xs.length * 1))[k]? = (xs.map V32)[k]? := by rw [ht]
    rw [List.getElem?_take, if_pos (by omega)] at hk'
    simp only [World.cell?, hh, Nat.zero_add]
    have : cur[k]? = (xs.map V32)[k]? := by simpa using hk'
    rw [if_neg (by simp), this]
    simp [V32, List.getD_eq_getElem?_getD, List.getElem?_eq_getElem hk]

theorem take_snocI (xs : List Int) (k : Nat) (h : k < xs.length) : xs.take (k + 1) = xs.take k ++ [xs.getD k 0] := by
  rw [List.take_succ_eq_append_getElem h]
  simp [List.getD_eq_getElem?_getD, List.getElem?_eq_getElem h]
theorem u32_wrap (x : Int) : IntKind.u32.wrap x = (((x % 4294967296).toNat : Nat) : Int) := by
  simp [IntKind.wrap, IntKind.bits, IntKind.signed]; omega

set_option maxHeartbeats 400000 in
theorem hash_any {w : World} {v : Value} {xs : List Int} (hv : R32 w v xs) (hx : xs.length ≤ 9223372036854775807) :
    Calls Tryd.prog 19 #[v] w fun e w' => e = .returned (.int .u64 ((hashN xs : Nat) : Int)) ∧ w' = w := by
  obtain ⟨ad, cap, rfl, hv⟩ := hv
  have HV := Lib.hid hv
  clear hv
  go_enter Tryd.func19, Tryd.ntmps19
  go_wp2
  go_loop [3, 8] (fun h i => ∃ k : Nat, k ≤ xs.length ∧ i = .int .i64 (k : Int) ∧ h = .int .u64 ((hashN (xs.take k) : Nat) : Int)) (fun _ i => xs.length - (intOf i).toNat)
  case atStart => exact ⟨0, Nat.zero_le _, rfl, rfl⟩
  case round =>
    obtain ⟨k, hk, rfl, rfl⟩ := hrel
    by_cases hlt : k < xs.length
    · obtain ⟨⟨pb, po, ps⟩, hp, hps, hc⟩ := HV.out k hlt
      simp only at hps hc
      subst hps
      have HHV := Lib.hid HV
      clear HV
      subst hp
      have hsn := hashN_snoc (xs.take k) (xs.getD k 0)
      rw [← take_snocI xs k hlt] at hsn
      have HSN := Lib.hid hsn
      clear hsn
      have hhl := hashN_lt (xs.take k)
      generalize hashN (xs.take k) = h at *
      generalize xs.getD k 0 = x at *
      have hu := u32_wrap x
      have hul : (x % 4294967296).toNat < 4294967296 := by omega
      have HS : Hid (hstep h x = (h + (x % 4294967296).toNat) * 1640531527 % 4294967311) := rfl
      generalize (x % 4294967296).toNat = u at *
      go_wp2
      go_round
      case rel => exact ⟨k + 1, by omega, by go_num, by rw [HSN.out, HS.out]; go_num⟩
      case measure => simp [intOf]; omega
    · have hd : decide (k < xs.length) = false := by simp; omega
      go_wp2
      go_ret
      exact ⟨ret_int (by rw [List.take_of_length_le (by omega)]), rfl⟩
end Go.Proofs.YtoppjkdlloddmaaDoor
