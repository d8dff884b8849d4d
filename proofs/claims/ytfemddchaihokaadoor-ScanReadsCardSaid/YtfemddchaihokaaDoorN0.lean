/-
  The law's own example; what no reader answers.
-/
import Derived.Test.YtfemddchaihokaaDoorL8
import Derived.Test.YtfemddchaihokaaDoorE7
namespace Go.Proofs.YtfemddchaihokaaDoor
open Go.RowKit

/-- What a law leaves: true, and all that was there as it was. -/
def LawF (w : World) (e : Ending) (w' : World) : Prop := e = .returned (.bool true) ∧ Below w.heap.size w w'

theorem cellsT_at (ts : List Tok) (i : Nat) (t : Tok) (h : ts[i]? = some t) (j : Nat) (hj : j < 3) : (cellsT ts)[i * 3 + j]? = (tokC t)[j]? := by
  induction ts generalizing i with
  | nil => simp at h
  | cons u r ih =>
    have e : cellsT (u :: r) = tokC u ++ cellsT r := by simp [cellsT]
    rw [e]
    cases i with
    | zero =>
      simp only [List.getElem?_cons_zero, Option.some.injEq] at h
      subst h
      rw [Nat.zero_mul, Nat.zero_add, List.getElem?_append_left (by simpa [tokC] using hj)]
    | succ i =>
      rw [List.getElem?_append_right (by simp [tokC]; omega)]
      have := ih i (by simpa using h)
      rw [← this]
      congr 1
      simp [tokC]
      omega
/-- A slice that reads as tokens. -/
theorem tok_cells {w : World} {base g cap : Nat} {ts : List Tok} {e : TypeId} (h : w.ownsRow base e 3 (.slice (some ⟨g, 0, none⟩) ts.length cap) ts.length (cellsT ts)) {i : Nat} {t : Tok} (ht : ts[i]? = some t) :
    w.cell? ⟨g, i * 3, none⟩ = some (.int .i64 t.kind) ∧ w.cell? ⟨g, i * 3 + 1, none⟩ = some (.string ⟨t.text.toArray⟩) ∧ w.cell? ⟨g, i * 3 + 2, none⟩ = some (.int .i64 t.pos) := by
  have hi : i < ts.length := (List.getElem?_eq_some_iff.1 ht).1
  have h0 := h.cellAt (i * 3) (by omega)
  have h1 := h.cellAt (i * 3 + 1) (by omega)
  have h2 := h.cellAt (i * 3 + 2) (by omega)
  have c0 := cellsT_at ts i t ht 0 (by omega)
  rw [Nat.add_zero] at c0
  rw [c0] at h0
  rw [cellsT_at ts i t ht 1 (by omega)] at h1
  rw [cellsT_at ts i t ht 2 (by omega)] at h2
  exact ⟨h0, h1, h2⟩

theorem owns_form {w : World} {base size n : Nat} {e : TypeId} {v : Value} {xs : List Value} (h : w.ownsRow base e size v n xs) (hn : 0 < n) : ∃ g cap, v = .slice (some ⟨g, 0, none⟩) n cap := by
  rcases h.2 with ⟨_, h0⟩ | ⟨g, cap, _, rfl, _⟩
  · omega
  · exact ⟨g, cap, rfl⟩
theorem tokens_ok {s : ByteArray} {ts : List Tok} (w : World) (hG : GlobS w) (hs : s.size ≤ 65536) (h : toks s.data.toList = .ok ts) :
    Calls Tryd.prog 10 #[.string s] w fun e w' => ∃ g cap, e = .returned (.tuple #[.slice (some ⟨g, 0, none⟩) ts.length cap, .nilIface]) ∧ 0 < ts.length ∧ ts.length ≤ 65537 ∧ w'.ownsRow w.heap.size 34 3 (.slice (some ⟨g, 0, none⟩) ts.length cap) ts.length (cellsT ts) ∧ Below w.heap.size w w' := by
  refine (tokens_any s w hG hs).mono ?_
  rintro e w' (⟨ts', v, h1, rfl, h2, h3, h4, h5⟩ | ⟨x, p, b, h1, _⟩)
  · rw [h] at h1
    obtain rfl := Res.ok.inj h1
    obtain ⟨g, cap, rfl⟩ := owns_form h4 h2
    exact ⟨g, cap, rfl, h2, h3, h4, h5⟩
  · rw [h] at h1; cases h1
theorem tokens_er {s : ByteArray} {x p : Nat} (w : World) (hG : GlobS w) (hs : s.size ≤ 65536) (h : toks s.data.toList = .error (x, p)) :
    Calls Tryd.prog 10 #[.string s] w fun e w' => ∃ b, e = .returned (.tuple #[.slice none 0 0, .iface 60 (.pointer (some ⟨b, 0, none⟩))]) ∧ w.heap.size ≤ b ∧ x ≠ 0 ∧ AtE w' b p x ∧ Below w.heap.size w w' := by
  refine (tokens_any s w hG hs).mono ?_
  rintro e w' (⟨ts', v, h1, _⟩ | ⟨x', p', b, h1, rfl, h2, h3, h4, h5, h6⟩)
  · rw [h] at h1; cases h1
  · rw [h] at h1
    injection h1 with h1
    injection h1 with e1 e2
    subst e1 e2
    exact ⟨b, rfl, h2, h3, ⟨h4, h5⟩, h6⟩

set_option maxHeartbeats 1000000 in
theorem alive_yes (w : World) (hG : GlobS w) : Calls Tryd.prog 9 #[] w (LawF w) := by
  have H1 := Lib.hid (tokens_ok (s := ⟨#[120, 39, 61, 120, 43, 49]⟩) w hG (by decide) toks_ex1)
  have HG := Lib.hid hG
  clear hG
  go_enter Tryd.func9, Tryd.ntmps9
  go_wp2_with fail
  with_reducible refine (H1.out).mono ?_
  rintro e w1 ⟨g, cap, rfl, _, _, hown, hb1⟩
  have hG1 := HG.out.below hb1
  have H2 := Lib.hid (tokens_er (s := ⟨#[97, 32, 36]⟩) w1 hG1 (by decide) toks_ex2)
  have HO := Lib.hid hown
  have HB1 := Lib.hid hb1
  have HG1 := Lib.hid hG1
  clear hown hb1 hG1
  go_wp2_with fail
  with_reducible refine (H2.out).mono ?_
  rintro e w2 ⟨b, rfl, hlt, _, hA, hb2⟩
  have ho2 := owns_below HO.out hb2
  have c1 := (tok_cells ho2 (i := 1) rfl).2.1
  have c2 := (tok_cells ho2 (i := 5) rfl).1
  have c3 := (tok_cells ho2 (i := 6) rfl).2.2
  have hG2 := (HG1.out.below hb2).glob
  have H3 := Lib.hid (num_at b 2 20 w2 hG2 hA)
  have HA := Lib.hid hA
  have HB2 := Lib.hid hb2
  have HG2 := Lib.hid hG2
  clear hA hb2 hG2 ho2
  go_wp2_with fail
  with_reducible refine (H3.out).mono ?_
  rintro e w3 ⟨rfl, hb3⟩
  have H4 := Lib.hid (pos_at b 2 20 w3 (HG2.out.below hb3) (HA.out.below hb3))
  have HB3 := Lib.hid hb3
  clear hb3
  go_wp2_with fail
  with_reducible refine (H4.out).mono ?_
  rintro e w4 ⟨rfl, hb4⟩
  have HB4 := Lib.hid hb4
  clear hb4
  go_wp2
  go_ret
  refine ⟨rfl, ?_⟩
  have h2 := HB1.out.trans (HB2.out.mono HB1.out.size)
  have h3 := h2.trans (HB3.out.mono h2.size)
  exact h3.trans (HB4.out.mono h3.size)
end Go.Proofs.YtfemddchaihokaaDoor
