/-
  Meanings, definitions, labels and bounds of a reader of models, walked.
-/
import Derived.Test.YtddeplbgihcdkaaGreatDoorG5
namespace Go.Proofs.YtddeplbgihcdkaaGreatDoor
open Go.RowKit

section
variable {xb rb b D : Nat} {st : St}
theorem MRd.nx {w : World} (h : MRd w xb rb b D st) : ∀ k, w.heap.size ≤ k → ¬ X2 xb rb k := fun k hk hx => by have := x2_lt hx h.ltx h.hr; omega
theorem MRd.ble {w : World} (h : MRd w xb rb b D st) : b ≤ w.heap.size := by have := h.ltx; have := h.hx; omega
set_option maxHeartbeats 1000000 in
theorem mmean_any (w : World) (h : MRd w xb rb b D st) : Calls Tryz.prog 212 #[.pointer (some ⟨xb, 0, none⟩)] w (EmP xb rb b D (st.mean D) w) := by
  have hx := h.ltx
  have hrb := h.hr
  have HN := Lib.hid h.nx
  have hbl := h.ble
  have H := Lib.hid h
  clear h
  go_enter Tryz.func212, Tryz.ntmps212
  go_wp2_with fail
  refine calls_gen (P := fun W => MRd W xb rb b D st ∧ Box W w.heap.size (.string ⟨#[]⟩) (.string ⟨#[]⟩) (.int .i64 0) (.slice none 0 0) (.int .i64 0) ∧ Fx (X2 xb rb) w W) ⟨H.out.alloc _, Box.new _ _ _ _ _ _, (Fx.refl _ _).alloc _⟩ ?_
  rintro W ⟨hM, hB, hF⟩
  refine (mwant_any W hM _).mono ?_
  rintro e w1 ⟨rfl, hM1, hF1⟩
  have HM1 := Lib.hid (show MRd w1 xb rb b D (st.want [61]) from hM1)
  have HB1 := Lib.hid (hB.fxb hF1 (HN.out _ (Nat.le_refl _)))
  have HF1 := Lib.hid (hF.trans hF1)
  clear hM hB hF hM1 hF1 H
  go_wp2_with fail
  refine (mexpr_any w1 HM1.out).mono ?_
  rintro e w2 ⟨v, rfl, hX, hM2, hF2⟩
  have HM2 := Lib.hid hM2
  have HX2 := Lib.hid (hX.mono (by have := HF1.out.size; omega : w.heap.size + 1 ≤ w1.heap.size + 1))
  have HB2 := Lib.hid (HB1.out.fxb hF2 (HN.out _ (Nat.le_refl _)))
  have HF2 := Lib.hid (HF1.out.trans hF2)
  clear hX hM2 hF2 HM1 HB1 HF1
  go_wp2_with fail
  refine calls_gen (P := fun W => MRd W xb rb b D ((st.want [61]).expr D).2 ∧ Box W w.heap.size (.string ⟨#[]⟩) (.string ⟨#[]⟩) (.int .i64 0) (.slice none 0 0) (.int .i64 0) ∧ Box W w2.heap.size (.string v.o) (.string v.nm) (.int .i64 v.n) (.slice v.A v.ll v.cap) (.int .i64 v.p) ∧ XO W (w.heap.size + 1) ((st.want [61]).expr D).1 v.c ∧ Fx (X2 xb rb) w W) ⟨HM2.out.alloc _, HB2.out.alloc _, Box.new _ _ _ _ _ _, HX2.out.alloc _, HF2.out.alloc _⟩ ?_
  have hs2 := HF2.out.size
  rintro W ⟨hM, hB, hC, hX, hF⟩
  refine (mwant_any W hM _).mono ?_
  rintro e w3 ⟨rfl, hM3, hF3⟩
  have hB3 := hB.fxb hF3 (HN.out _ (Nat.le_refl _))
  have hC3 := hC.fxb hF3 (HN.out _ (by omega))
  have HX3 := Lib.hid (hX.fx hF3 (fun k hk => by have := x2_lt hk hx hrb; omega))
  have HM3 := Lib.hid (show MRd w3 xb rb b D (((st.want [61]).expr D).2.want [59]) from hM3)
  have HF3 := Lib.hid (hF.trans hF3)
  obtain ⟨d0, d1, d2, d3, d4⟩ := hC3.cells
  obtain ⟨a0, a1, a2, a3, a4⟩ := hB3.cells
  obtain ⟨y0, y1, y2, y3, y4⟩ := hB3.frozen
  have hl1 := hB3.lt
  have hl2 := hC3.lt
  have HB3 := Lib.hid hB3
  clear hM hB hC hX hF hM3 hF3 hB3 hC3 HM2 HB2 HX2 HF2
  go_wp2
  obtain ⟨m0, m1, m2, m3, m4⟩ := (HB3.out.set5 (.string v.o) (.string v.nm) (.int .i64 v.n) (.slice v.A v.ll v.cap) (.int .i64 v.p)).cells
  refine bodyPost_ret (v := .agg #[.string v.o, .string v.nm, .int .i64 v.n, .slice v.A v.ll v.cap, .int .i64 v.p]) (by simp [results, Tryz.results212, go_sem, m0, m1, m2, m3, m4]) rfl ⟨v, rfl, ?_, ?_, ?_⟩
  · exact HX3.out.set5 (by omega) _ _ _ _ _
  · exact HM3.out.set5 HB3.out (by omega) _ _ _ _ _
  · exact HF3.out.set5 (Nat.le_refl _) _ _ _ _ _
/-- What a definition's reader tells. -/
def DmP (xb rb b D : Nat) (r : DefO × St) (w : World) (e : Ending) (w' : World) : Prop :=
  ∃ v : XV, e = .returned (.agg #[.string ⟨r.1.nm.toArray⟩, .string v.o, .string v.nm, .int .i64 v.n, .slice v.A v.ll v.cap, .int .i64 v.p, .int .i64 ((r.1.pos : Nat) : Int)]) ∧ XO w' (w.heap.size + 1) r.1.x v.c ∧ MRd w' xb rb b D r.2 ∧ Fx (X2 xb rb) w w'
end
end Go.Proofs.YtddeplbgihcdkaaGreatDoor
