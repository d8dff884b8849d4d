/-
  A list of calls that came in, as a walk takes it.
-/
import Derived.Test.YtfemddchaihokaaDoorP2
import Derived.Test.YtfemddchaihokaaDoorN6
import Derived.Deep.Slices
import Derived.Deep.Fields
import Derived.ChangeSame
namespace Go.Proofs.YtfemddchaihokaaDoor
open Go.ChangeShapes Go.WideShapes Go.ChangeAt Go.RowKit Go.Deep

theorem cellsA : Tryd.prog.cellsOf 42 = 2 := by kernel_rfl
theorem twoA : ∃ f g : Field, Tryd.prog.underlying 42 = some (.struct #[f, g]) ∧ f.type = 3 ∧ g.type = 9 ∧ f.offset = 0 ∧ g.offset = 1 := ⟨_, _, Tryd.underlying42, rfl, rfl, rfl, rfl⟩
theorem cellsI1 : Tryd.prog.cellsOf 3 = 1 := by kernel_rfl
theorem cellsS1 : Tryd.prog.cellsOf 9 = 1 := by kernel_rfl

set_option maxRecDepth 100000 in
theorem acts_of {H : Type} {enc : TypeId × Value → H} {W : World} {a0 : Option Addr} {len cap : Nat} {d : DataW H} {p : List MemPlace}
    (h : DataW.Trod enc Tryd.prog W 0 (fun _ => true) true 36 (.slice a0 len cap) d p) :
    ∃ ls : List (Int × ByteArray), ls.length = len ∧ AR W (.slice a0 len cap) ls := by
  obtain ⟨fuel, hf⟩ := h
  rcases open_slice Tryd.underlying36 hf with ⟨hcs, _⟩ | ⟨a, len', cap', m, n, D, Pl, hcs, _, hl, _, hm, _, hi⟩
  · simp [Value.cells] at hcs
    obtain ⟨rfl, rfl, rfl⟩ := hcs
    exact ⟨[], rfl, none, 0, rfl, fun k hk => absurd hk (by simp)⟩
  · simp [Value.cells] at hcs
    obtain ⟨rfl, rfl, rfl⟩ := hcs
    simp only [if_true] at hm
    obtain ⟨f, g, hu, hft, hgt, hfo, hgo⟩ := twoA
    have key0 : ∀ i, i < len → ∃ x : Int × ByteArray, W.cell? (a.add (i * 2)) = some (.int .i64 x.1) ∧ W.cell? (a.add (i * 2 + 1)) = some (.string x.2) := by
      intro i hil
      obtain ⟨cs', hc, ht'⟩ := hi i (by omega)
      rw [cellsA] at hc
      obtain ⟨ys, n', _, _, hlen, hyl, hfs⟩ := DataW.trod_struct hu ht'
      rw [cellsA] at hlen
      obtain ⟨_, _, hat⟩ := World.cells?_some hc
      have h0 := hfs 0 f rfl
      have h1 := hfs 1 g rfl
      rw [hfo, hft, cellsI1] at h0
      rw [hgo, hgt, cellsS1] at h1
      match cs', hlen, ys, hyl with
      | [u, v], _, [y0, y1], _ =>
        simp only [List.drop_zero, List.take_succ_cons, List.take_zero, List.drop_succ_cons, List.getElem?_cons_zero, List.getElem?_cons_succ] at h0 h1
        obtain ⟨z, hz, _, _⟩ := DataW.trod_int Tryd.underlying3 h0
        obtain ⟨b, hb, _, _⟩ := DataW.trod_string Tryd.underlying9 h1
        injection hz with hz
        injection hb with hb
        subst hz hb
        have e0 := hat 0 (by omega)
        have e1 := hat 1 (by omega)
        rw [Go.Deep.add_add] at e0 e1
        exact ⟨(z, b), by simpa using e0, by simpa using e1⟩
    have key : ∀ i, ∃ x : Int × ByteArray, i < len → (a.spot = none ∧ W.cell? ⟨a.block, a.off + i * 2, none⟩ = some (.int .i64 x.1) ∧ W.cell? ⟨a.block, a.off + (i * 2 + 1), none⟩ = some (.string x.2)) := by
      intro i
      by_cases hil : i < len
      · obtain ⟨x0, h00, _⟩ := key0 0 (by omega)
        have hs : a.spot = none := by
          have := spot_none h00
          simpa [Addr.add] using this
        obtain ⟨x, h0, h1⟩ := key0 i hil
        rw [add_eq a hs] at h0 h1
        exact ⟨x, fun _ => ⟨hs, h0, h1⟩⟩
      · exact ⟨(0, ⟨#[]⟩), fun h => absurd h hil⟩
    obtain ⟨F, hF⟩ := Classical.axiomOfChoice key
    refine ⟨(List.range len).map F, by simp, some a, cap, by simp, fun k hk => ?_⟩
    have hk' : k < len := by simpa using hk
    obtain ⟨h1, h2, h3⟩ := hF k hk'
    refine ⟨a, rfl, h1, ?_, ?_⟩
    · simpa using h2
    · simpa using h3

theorem reads_yes (s : ByteArray) {ad : Option Addr} {len cap : Nat} {ls : List (Int × ByteArray)} (w : World) (hG : GlobS w) (hl : ls.length = len)
    (hok : ∀ {ts : List Tok}, s.size ≤ 3000 → ls.length ≤ 200 → toks s.data.toList = .ok ts → Calls Tryd.prog 4 #[.string s, .slice ad len cap] w (LawF w)) : Calls Tryd.prog 4 #[.string s, .slice ad len cap] w (LawF w) := by
  by_cases h3 : 3000 < s.size ∨ 200 < len
  · exact reads_long s ad len cap w hG h3
  cases h : toks s.data.toList with
  | error x => exact reads_er s ad len cap w hG (by omega) (by omega) (x := x.1) (p := x.2) h
  | ok ts => exact hok (by omega) (by omega) h
end Go.Proofs.YtfemddchaihokaaDoor
