/-
  What is read of a table: place, Len, Find and At; and New.
-/
import Derived.Test.YtoppjkdlloddmaaDoorT1
namespace Go.Proofs.YtoppjkdlloddmaaDoor
open Go.RowKit

set_option maxHeartbeats 400000 in
theorem new_any (w : World) : Calls Tryd.prog 5 #[] w fun e w' => e = .returned (.pointer (some ⟨w.heap.size, 0, none⟩)) ∧ w' = w.alloc (.cells #[.slice none 0 0, .slice none 0 0] 43) := by
  go_enter Tryd.func5, Tryd.ntmps5
  go_wp2
  go_ret
  exact ⟨rfl, rfl⟩

set_option maxHeartbeats 400000 in
theorem len_raw (b n cap : Nat) (ad : Option Addr) (w : World) (hc : w.cell? ⟨b, 0, none⟩ = some (.slice ad n cap)) :
    Calls Tryd.prog 10 #[.pointer (some ⟨b, 0, none⟩)] w fun e w' => e = .returned (.int .i64 (n : Int)) ∧ w' = w := by
  go_enter Tryd.func10, Tryd.ntmps10
  go_wp2
  go_ret
  exact ⟨rfl, rfl⟩
theorem Tb.len_ {w : World} {B b n m : Nat} {ev hv : Value} {vl : Nat → Value} {vs : List (List Int)} {nx hs : Nat → Int} (h : Tb w B b n m ev hv vl vs nx hs) :
    Calls Tryd.prog 10 #[.pointer (some ⟨b, 0, none⟩)] w fun e w' => e = .returned (.int .i64 (n : Int)) ∧ w' = w := by
  obtain ⟨⟨ad, cap, rfl⟩, _⟩ := h.slices
  exact len_raw b n cap ad w h.c0
theorem Tab.len_ {w : World} {B b : Nat} {vs : List (List Int)} (h : Tab w B b vs) :
    Calls Tryd.prog 10 #[.pointer (some ⟨b, 0, none⟩)] w fun e w' => e = .returned (.int .i64 (vs.length : Int)) ∧ w' = w := by
  obtain ⟨m, ev, hv, vl, nx, hs, h1, h2⟩ := h
  exact h1.len_

set_option maxHeartbeats 400000 in
theorem place_raw {w : World} {b m cap : Nat} {ad : Option Addr} {v : Value} {xs : List Int} (hv : R32 w v xs) (hx : xs.length ≤ 9223372036854775807) (hc : w.cell? ⟨b, 1, none⟩ = some (.slice ad m cap)) (hm : 0 < m) (hm2 : m ≤ 100000) :
    Calls Tryd.prog 13 #[.pointer (some ⟨b, 0, none⟩), v] w fun e w' => e = .returned (.int .i64 ((hashN xs % m : Nat) : Int)) ∧ ∃ k, w' = w.drewN k := by
  have HV := Lib.hid hv
  clear hv
  have hlt := hashN_lt xs
  have hml : hashN xs % m < m := Nat.mod_lt _ hm
  have hmi : ((hashN xs : Nat) : Int) % (m : Int) = ((hashN xs % m : Nat) : Int) := by omega
  have hmt : ((hashN xs : Nat) : Int).tmod (m : Int) = ((hashN xs % m : Nat) : Int) := by rw [Int.tmod_eq_emod_of_nonneg (by omega)]; exact hmi
  have HH := Lib.hid (fun n : Nat => hash_any (HV.out.drewN n) hx)
  generalize hashN xs = h at *
  generalize h % m = r at *
  have w1 : IntKind.u64.wrap (m : Int) = (m : Int) := by simp [IntKind.wrap, IntKind.bits, IntKind.signed]; omega
  have w2 : IntKind.u64.wrap (r : Int) = (r : Int) := by simp [IntKind.wrap, IntKind.bits, IntKind.signed]; omega
  have w3 : IntKind.i64.wrap (r : Int) = (r : Int) := IntWalk.i64_in _ (by omega)
  have m0 : ¬ ((m : Int) = 0) := by omega
  have m1 : ((m : Int) == 0) = false := by rw [beq_eq_false_iff_ne]; omega
  go_enter Tryd.func13, Tryd.ntmps13
  go_wp2_with fail
  go_quiet ((go_at_call 19; exact Calls.quiet_of_same (HH.out _)))
  go_wp2
  go_ret
  exact ⟨rfl, _, rfl⟩

set_option maxHeartbeats 400000 in
theorem at_no {w : World} {B b : Nat} {vs : List (List Int)} (h : Tab w B b vs) (i : Int) (hi : i < 0 ∨ (vs.length : Int) ≤ i) :
    Calls Tryd.prog 11 #[.pointer (some ⟨b, 0, none⟩), .int .i64 i] w fun e w' => e = .returned (.tuple #[.slice none 0 0, .bool false]) ∧ w' = w := by
  have HL := Lib.hid h.len_
  clear h
  by_cases h0 : i < 0
  · clear hi
    go_enter Tryd.func11, Tryd.ntmps11
    go_wp2_with fail
    go_ret2
    exact ⟨rfl, rfl⟩
  · have h1 : (vs.length : Int) ≤ i := by omega
    have h2 : decide (i < 0) = false := by simp; omega
    clear hi
    go_enter Tryd.func11, Tryd.ntmps11
    go_wp2_with fail
    refine HL.out.mono ?_
    rintro e w' ⟨rfl, rfl⟩
    go_wp2_with fail
    go_ret2
    exact ⟨rfl, rfl⟩

/-- What At hands back. -/
def AtF (xs : List Int) (w : World) (e : Ending) (w' : World) : Prop :=
  ∃ v, e = .returned (.tuple #[v, .bool true]) ∧ w'.ownsRow w.heap.size 21 1 v xs.length (xs.map V32) ∧ Below w.heap.size w w'

set_option maxHeartbeats 400000 in
theorem at_yes {w : World} {B b : Nat} {vs : List (List Int)} (h : Tab w B b vs) (i : Nat) (hi : i < vs.length) (hl : vs.length ≤ 1000) :
    Calls Tryd.prog 11 #[.pointer (some ⟨b, 0, none⟩), .int .i64 (i : Int)] w (AtF (vs.getD i []) w) := by
  have HL := Lib.hid h.len_
  obtain ⟨m, ev, hv, vl, nx, hs, h1, _, _, _, _, h64⟩ := h
  obtain ⟨g, cap, hev, _, _, _, hce⟩ := h1.entAt (by omega)
  have hc0 := h1.c0
  subst hev
  have hcv := (hce i hi).1
  have HR := Lib.hid (h1.r32 i hi)
  have h64' := h64 i
  clear hce h1 h64
  have hd : decide (i < vs.length) = true := by simp; omega
  have hd2 : decide ((vs.length : Int) ≤ (i : Int)) = false := by simp; omega
  have i0 : (0 : Int) ≤ (i : Int) := by omega
  have i1 : (i : Int) < (vs.length : Int) := by omega
  go_enter Tryd.func11, Tryd.ntmps11
  go_wp2_with fail
  refine HL.out.mono ?_
  rintro e w' ⟨rfl, hw'⟩
  rw [hw']
  clear hw' w'
  go_wp2_with fail
  refine (clone_any HR.out (by omega)).mono ?_
  rintro e w' ⟨v, rfl, ho, hb⟩
  have HO := Lib.hid ho
  have HB := Lib.hid hb
  clear ho hb
  go_wp2_with fail
  go_ret2
  exact ⟨_, rfl, HO.out, HB.out⟩
end Go.Proofs.YtoppjkdlloddmaaDoor
