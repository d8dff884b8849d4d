/-
  Lists of small numbers that came in, as a walk takes them.
-/
import Derived.Test.YtkgjpimapfmeoaaDoorMp
namespace Go.Proofs.YtkgjpimapfmeoaaDoor
open Go.ChangeShapes Go.WideShapes Go.ChangeAt Go.RowKit Go.Deep

def WSl (w : World) (A : Option Addr) (l : List Nat) : Prop := ∀ i (h : i < l.length), ∃ g o, A = some ⟨g, o, none⟩ ∧ w.cell? ⟨g, o + i, none⟩ = some (.int .u16 ((l[i] : Nat) : Int)) ∧ l[i] ≤ 65535
theorem WSl.below {w w' : World} {A : Option Addr} {l : List Nat} (h : WSl w A l) (hb : Below w.heap.size w w') : WSl w' A l := fun i hi => by
  obtain ⟨g, o, h1, h2, h3⟩ := h i hi
  exact ⟨g, o, h1, cell_blw hb h2, h3⟩
section
variable {H : Type} {enc : TypeId × Value → H} {W : World}
theorem u16_wf {n : Int} (h : (Lit.int .u16 n).wf = true) : 0 ≤ n ∧ n ≤ 65535 := by
  have e1 : IntKind.min .u16 = 0 := by decide
  have e2 : IntKind.max .u16 = 65535 := by decide
  simp only [Lit.wf, Bool.and_eq_true, decide_eq_true_eq] at h
  omega
theorem cellsB1 : Tryd.prog.cellsOf 5 = 1 := by kernel_rfl
theorem cellsW1 : Tryd.prog.cellsOf 59 = 1 := by kernel_rfl
theorem bytes_of {a0 : Option Addr} {len cap : Nat} {d : DataW H} {p : List MemPlace} (h : DataW.Trod enc Tryd.prog W 0 (fun _ => true) true 63 (.slice a0 len cap) d p) (h0 : 0 < len) :
    ∃ g o x, a0 = some ⟨g, o, none⟩ ∧ W.cell? ⟨g, o, none⟩ = some (.int .u8 ((x : Nat) : Int)) ∧ x ≤ 255 := by
  obtain ⟨fuel, hf⟩ := h
  obtain ⟨b0, len2, cap2, hc, _, _, hel⟩ := open_sl 1 Tryd.underlying63 cellsB1 (by decide) (c := .slice a0 len cap) hf
  injection hc with q1 q2 q3
  subst q1 q2 q3
  obtain ⟨g, o, cs', f', y, rfl, h1, h2, h3⟩ := hel 0 h0
  match cs', h1 with
  | [u], _ =>
    obtain ⟨z, hz, _, hw⟩ := DataW.trod_int Tryd.underlying5 h3
    injection hz with hz
    subst hz
    have hb := u8_wf hw
    refine ⟨g, o, z.toNat, rfl, ?_, by omega⟩
    rw [Int.toNat_of_nonneg hb.1]
    simpa using h2 0 (by simp)
theorem words_of {a0 : Option Addr} {len cap : Nat} {d : DataW H} {p : List MemPlace} (h : DataW.Trod enc Tryd.prog W 0 (fun _ => true) true 58 (.slice a0 len cap) d p) :
    ∃ l : List Nat, len = l.length ∧ l.length ≤ maxLen ∧ WSl W a0 l := by
  obtain ⟨fuel, hf⟩ := h
  obtain ⟨b0, len2, cap2, hc, _, hlm, hel⟩ := open_sl 1 Tryd.underlying58 cellsW1 (by decide) (c := .slice a0 len cap) hf
  injection hc with q1 q2 q3
  subst q1 q2 q3
  obtain ⟨l, rfl, hl⟩ := pick_list (P := fun i (z : Nat) => ∃ g o, a0 = some ⟨g, o, none⟩ ∧ W.cell? ⟨g, o + i, none⟩ = some (.int .u16 (z : Int)) ∧ z ≤ 65535) len (fun i hi => by
    obtain ⟨g, o, cs', f', y, rfl, h1, h2, h3⟩ := hel i hi
    match cs', h1 with
    | [u], _ =>
      obtain ⟨z, hz, _, hw⟩ := DataW.trod_int Tryd.underlying59 h3
      injection hz with hz
      subst hz
      have hb := u16_wf hw
      refine ⟨z.toNat, g, o, rfl, ?_, by omega⟩
      rw [Int.toNat_of_nonneg hb.1]
      simpa using h2 0 (by simp))
  exact ⟨l, rfl, hlm, hl⟩
end
end Go.Proofs.YtkgjpimapfmeoaaDoor
