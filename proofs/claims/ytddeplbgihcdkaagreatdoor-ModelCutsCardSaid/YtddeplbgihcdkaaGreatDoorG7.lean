/-
  Definitions, labels, bounds and settings of a reader of models, walked.
-/
import Derived.Test.YtddeplbgihcdkaaGreatDoorG6
namespace Go.Proofs.YtddeplbgihcdkaaGreatDoor
open Go.RowKit

section
variable {xb rb b D : Nat} {st : St}
set_option maxHeartbeats 1000000 in
theorem mdefn_any (w : World) (h : MRd w xb rb b D st) : Calls Tryz.prog 177 #[.pointer (some ⟨xb, 0, none⟩)] w (DmP xb rb b D (st.defn D) w) := by
  have hx := h.ltx
  have hrb := h.hr
  have HN := Lib.hid h.nx
  have hbl := h.ble
  have H := Lib.hid h
  clear h
  go_enter Tryz.func177, Tryz.ntmps177
  go_wp2_with fail
  refine calls_gen (P := fun W => MRd W xb rb b D st ∧ Bx W w.heap.size 173 [.string ⟨#[]⟩, .string ⟨#[]⟩, .string ⟨#[]⟩, .int .i64 0, .slice none 0 0, .int .i64 0, .int .i64 0] ∧ Fx (X2 xb rb) w W) ⟨H.out.alloc _, Bx.new _ _ _, (Fx.refl _ _).alloc _⟩ ?_
  rintro W ⟨hM, hB, hF⟩
  refine (mname_any W hM).mono ?_
  rintro e w1 ⟨rfl, hM1, hF1⟩
  have HM1 := Lib.hid hM1
  have HB1 := Lib.hid (hB.fx hF1 (HN.out _ (Nat.le_refl _)))
  have HF1 := Lib.hid (hF.trans hF1)
  clear hM hB hF hM1 hF1 H
  go_wp2_with fail
  refine (mmean_any w1 HM1.out).mono ?_
  rintro e w2 ⟨v, rfl, hX, hM2, hF2⟩
  have HM2 := Lib.hid hM2
  have HX2 := Lib.hid (hX.mono (by have := HF1.out.size; omega : w.heap.size + 1 ≤ w1.heap.size + 1))
  have hB2 := HB1.out.fx hF2 (HN.out _ (Nat.le_refl _))
  have HF2 := Lib.hid (HF1.out.trans hF2)
  have a0 := hB2.cell 0
  have a1 := hB2.cell 1
  have a2 := hB2.cell 2
  have a3 := hB2.cell 3
  have a4 := hB2.cell 4
  have a5 := hB2.cell 5
  have a6 := hB2.cell 6
  simp only [List.getElem?_cons_zero, List.getElem?_cons_succ] at a0 a1 a2 a3 a4 a5 a6
  have y0 := hB2.frozen 0
  have y1 := hB2.frozen 1
  have y2 := hB2.frozen 2
  have y3 := hB2.frozen 3
  have y4 := hB2.frozen 4
  have y5 := hB2.frozen 5
  have y6 := hB2.frozen 6
  have hl1 := hB2.lt
  have HB2 := Lib.hid hB2
  clear hX hM2 hF2 HM1 HB1 HF1 hB2
  go_wp2
  have hB3 := HB2.out.setL (i := 0) (us := [.string ⟨st.name.1.1.toArray⟩, .string v.o, .string v.nm, .int .i64 v.n, .slice v.A v.ll v.cap, .int .i64 v.p, .int .i64 ((st.name.1.2 : Nat) : Int)])
  simp only [setL, setLs, List.set_cons_zero, List.set_cons_succ] at hB3
  refine bodyPost_ret (v := .agg #[.string ⟨st.name.1.1.toArray⟩, .string v.o, .string v.nm, .int .i64 v.n, .slice v.A v.ll v.cap, .int .i64 v.p, .int .i64 ((st.name.1.2 : Nat) : Int)]) (by simp [results, Tryz.results177, go_sem, hB3.cell]) rfl ⟨v, rfl, ?_, ?_, ?_⟩
  · exact XO.setL (i := 0) (us := [.string ⟨st.name.1.1.toArray⟩, .string v.o, .string v.nm, .int .i64 v.n, .slice v.A v.ll v.cap, .int .i64 v.p, .int .i64 ((st.name.1.2 : Nat) : Int)]) HX2.out (by omega)
  · exact MRd.setL (i := 0) (us := [.string ⟨st.name.1.1.toArray⟩, .string v.o, .string v.nm, .int .i64 v.n, .slice v.A v.ll v.cap, .int .i64 v.p, .int .i64 ((st.name.1.2 : Nat) : Int)]) (by unfold RdT; decide) (by omega) HM2.out HB2.out
  · exact Fx.setL (i := 0) (us := [.string ⟨st.name.1.1.toArray⟩, .string v.o, .string v.nm, .int .i64 v.n, .slice v.A v.ll v.cap, .int .i64 v.p, .int .i64 ((st.name.1.2 : Nat) : Int)]) (.inl (Nat.le_refl _)) HF2.out
set_option maxHeartbeats 1000000 in
theorem mlabel_any (w : World) (h : MRd w xb rb b D st) : Calls Tryz.prog 178 #[.pointer (some ⟨xb, 0, none⟩)] w (DmP xb rb b D (st.labl D) w) := by
  have hx := h.ltx
  have hrb := h.hr
  have HN := Lib.hid h.nx
  have hbl := h.ble
  have H := Lib.hid h
  clear h
  go_enter Tryz.func178, Tryz.ntmps178
  go_wp2_with fail
  refine calls_gen (P := fun W => MRd W xb rb b D st ∧ Bx W w.heap.size 173 [.string ⟨#[]⟩, .string ⟨#[]⟩, .string ⟨#[]⟩, .int .i64 0, .slice none 0 0, .int .i64 0, .int .i64 0] ∧ Fx (X2 xb rb) w W) ⟨H.out.alloc _, Bx.new _ _ _, (Fx.refl _ _).alloc _⟩ ?_
  rintro W ⟨hM, hB, hF⟩
  refine (mtext_any W hM).mono ?_
  rintro e w1 ⟨rfl, hM1, hF1⟩
  have HM1 := Lib.hid hM1
  have HB1 := Lib.hid (hB.fx hF1 (HN.out _ (Nat.le_refl _)))
  have HF1 := Lib.hid (hF.trans hF1)
  clear hM hB hF hM1 hF1 H
  go_wp2_with fail
  refine (mmean_any w1 HM1.out).mono ?_
  rintro e w2 ⟨v, rfl, hX, hM2, hF2⟩
  have HM2 := Lib.hid hM2
  have HX2 := Lib.hid (hX.mono (by have := HF1.out.size; omega : w.heap.size + 1 ≤ w1.heap.size + 1))
  have hB2 := HB1.out.fx hF2 (HN.out _ (Nat.le_refl _))
  have HF2 := Lib.hid (HF1.out.trans hF2)
  have a0 := hB2.cell 0
  have a1 := hB2.cell 1
  have a2 := hB2.cell 2
  have a3 := hB2.cell 3
  have a4 := hB2.cell 4
  have a5 := hB2.cell 5
  have a6 := hB2.cell 6
  simp only [List.getElem?_cons_zero, List.getElem?_cons_succ] at a0 a1 a2 a3 a4 a5 a6
  have y0 := hB2.frozen 0
  have y1 := hB2.frozen 1
  have y2 := hB2.frozen 2
  have y3 := hB2.frozen 3
  have y4 := hB2.frozen 4
  have y5 := hB2.frozen 5
  have y6 := hB2.frozen 6
  have hl1 := hB2.lt
  have HB2 := Lib.hid hB2
  clear hX hM2 hF2 HM1 HB1 HF1 hB2
  go_wp2
  have hB3 := HB2.out.setL (i := 0) (us := [.string ⟨st.text.1.1.toArray⟩, .string v.o, .string v.nm, .int .i64 v.n, .slice v.A v.ll v.cap, .int .i64 v.p, .int .i64 ((st.text.1.2 : Nat) : Int)])
  simp only [setL, setLs, List.set_cons_zero, List.set_cons_succ] at hB3
  refine bodyPost_ret (v := .agg #[.string ⟨st.text.1.1.toArray⟩, .string v.o, .string v.nm, .int .i64 v.n, .slice v.A v.ll v.cap, .int .i64 v.p, .int .i64 ((st.text.1.2 : Nat) : Int)]) (by simp [results, Tryz.results178, go_sem, hB3.cell]) rfl ⟨v, rfl, ?_, ?_, ?_⟩
  · exact XO.setL (i := 0) (us := [.string ⟨st.text.1.1.toArray⟩, .string v.o, .string v.nm, .int .i64 v.n, .slice v.A v.ll v.cap, .int .i64 v.p, .int .i64 ((st.text.1.2 : Nat) : Int)]) HX2.out (by omega)
  · exact MRd.setL (i := 0) (us := [.string ⟨st.text.1.1.toArray⟩, .string v.o, .string v.nm, .int .i64 v.n, .slice v.A v.ll v.cap, .int .i64 v.p, .int .i64 ((st.text.1.2 : Nat) : Int)]) (by unfold RdT; decide) (by omega) HM2.out HB2.out
  · exact Fx.setL (i := 0) (us := [.string ⟨st.text.1.1.toArray⟩, .string v.o, .string v.nm, .int .i64 v.n, .slice v.A v.ll v.cap, .int .i64 v.p, .int .i64 ((st.text.1.2 : Nat) : Int)]) (.inl (Nat.le_refl _)) HF2.out
/-- What the bounds' reader tells. -/
def BmP (xb rb b D : Nat) (r : (Option Ex × Option Ex) × St) (w : World) (e : Ending) (w' : World) : Prop :=
  ∃ v u : XV, e = .returned (.tuple #[.agg #[.string v.o, .string v.nm, .int .i64 v.n, .slice v.A v.ll v.cap, .int .i64 v.p], .agg #[.string u.o, .string u.nm, .int .i64 u.n, .slice u.A u.ll u.cap, .int .i64 u.p]]) ∧ XO w' (w.heap.size + 1) r.1.1 v.c ∧ XO w' (w.heap.size + 1) r.1.2 u.c ∧ MRd w' xb rb b D r.2 ∧ Fx (X2 xb rb) w w'
set_option maxHeartbeats 2000000 in
theorem mbounds_any (w : World) (h : MRd w xb rb b D st) : Calls Tryz.prog 242 #[.pointer (some ⟨xb, 0, none⟩)] w (BmP xb rb b D (st.bnds D) w) := by
  have hx := h.ltx
  have hrb := h.hr
  have HN := Lib.hid h.nx
  have hbl := h.ble
  have H := Lib.hid h
  clear h
  go_enter Tryz.func242, Tryz.ntmps242
  go_wp2_with fail
  refine calls_gen (P := fun W => MRd W xb rb b D st ∧ Box W w.heap.size (.string ⟨#[]⟩) (.string ⟨#[]⟩) (.int .i64 0) (.slice none 0 0) (.int .i64 0) ∧ Box W (w.heap.size + 1) (.string ⟨#[]⟩) (.string ⟨#[]⟩) (.int .i64 0) (.slice none 0 0) (.int .i64 0) ∧ Fx (X2 xb rb) w W) ⟨(H.out.alloc _).alloc _, (Box.new _ _ _ _ _ _).alloc _, heap_new_at (by simp) _, ((Fx.refl _ _).alloc _).alloc _⟩ ?_
  rintro W ⟨hM, hB, hC, hF⟩
  refine (mwant_any W hM _).mono ?_
  rintro e w1 ⟨rfl, hM1, hF1⟩
  have HM1 := Lib.hid (show MRd w1 xb rb b D (st.want [91]) from hM1)
  have HB1 := Lib.hid (hB.fxb hF1 (HN.out _ (Nat.le_refl _)))
  have HC1 := Lib.hid (hC.fxb hF1 (HN.out _ (by omega)))
  have HF1 := Lib.hid (hF.trans hF1)
  have hs1 := HC1.out.lt
  clear hM hB hC hF hM1 hF1 H
  go_wp2_with fail
  refine (mexpr_any w1 HM1.out).mono ?_
  rintro e w2 ⟨v, rfl, hX, hM2, hF2⟩
  have HM2 := Lib.hid (show MRd w2 xb rb b D (st.low D).2 from hM2)
  have HX2 := Lib.hid (show XO w2 (w.heap.size + 2) (st.low D).1 v.c from hX.mono (by omega))
  have HB2 := Lib.hid (HB1.out.fxb hF2 (HN.out _ (Nat.le_refl _)))
  have HC2 := Lib.hid (HC1.out.fxb hF2 (HN.out _ (by omega)))
  have HF2 := Lib.hid (HF1.out.trans hF2)
  have hs2 := HC2.out.lt
  clear hX hM2 hF2 HM1 HB1 HC1 HF1
  go_wp2_with fail
  refine calls_gen (P := fun W => MRd W xb rb b D (st.low D).2 ∧ Box W w.heap.size (.string ⟨#[]⟩) (.string ⟨#[]⟩) (.int .i64 0) (.slice none 0 0) (.int .i64 0) ∧ Box W (w.heap.size + 1) (.string ⟨#[]⟩) (.string ⟨#[]⟩) (.int .i64 0) (.slice none 0 0) (.int .i64 0) ∧ Box W w2.heap.size (.string v.o) (.string v.nm) (.int .i64 v.n) (.slice v.A v.ll v.cap) (.int .i64 v.p) ∧ XO W (w.heap.size + 2) (st.low D).1 v.c ∧ Fx (X2 xb rb) w W) ⟨HM2.out.alloc _, HB2.out.alloc _, HC2.out.alloc _, Box.new _ _ _ _ _ _, HX2.out.alloc _, HF2.out.alloc _⟩ ?_
  rintro W ⟨hM, hB, hC, hE, hX, hF⟩
  refine (mwant_any W hM _).mono ?_
  rintro e w3 ⟨rfl, hM3, hF3⟩
  have HM3 := Lib.hid (show MRd w3 xb rb b D ((st.low D).2.want [46, 46]) from hM3)
  have HB3 := Lib.hid (hB.fxb hF3 (HN.out _ (Nat.le_refl _)))
  have HC3 := Lib.hid (hC.fxb hF3 (HN.out _ (by omega)))
  have HE3 := Lib.hid (hE.fxb hF3 (HN.out _ (by omega)))
  have HX3 := Lib.hid (hX.fx hF3 (fun k hk => by have := x2_lt hk hx hrb; omega))
  have HF3 := Lib.hid (hF.trans hF3)
  have hs3 := HE3.out.lt
  clear hM hB hC hE hX hF hM3 hF3 HM2 HB2 HC2 HX2 HF2
  go_wp2_with fail
  refine (mexpr_any w3 HM3.out).mono ?_
  rintro e w4 ⟨u, rfl, hX, hM4, hF4⟩
  have HM4 := Lib.hid (show MRd w4 xb rb b D (st.high D).2 from hM4)
  have HU4 := Lib.hid (show XO w4 (w.heap.size + 2) (st.high D).1 u.c from hX.mono (by omega))
  have HX4 := Lib.hid (HX3.out.fx hF4 (fun k hk => by have := x2_lt hk hx hrb; omega))
  have HB4 := Lib.hid (HB3.out.fxb hF4 (HN.out _ (Nat.le_refl _)))
  have HC4 := Lib.hid (HC3.out.fxb hF4 (HN.out _ (by omega)))
  have HE4 := Lib.hid (HE3.out.fxb hF4 (HN.out _ (by omega)))
  have HF4 := Lib.hid (HF3.out.trans hF4)
  have hs4 := HE4.out.lt
  clear hX hM4 hF4 HM3 HB3 HC3 HE3 HX3 HF3
  go_wp2_with fail
  refine calls_gen (P := fun W => MRd W xb rb b D (st.high D).2 ∧ Box W w.heap.size (.string ⟨#[]⟩) (.string ⟨#[]⟩) (.int .i64 0) (.slice none 0 0) (.int .i64 0) ∧ Box W (w.heap.size + 1) (.string ⟨#[]⟩) (.string ⟨#[]⟩) (.int .i64 0) (.slice none 0 0) (.int .i64 0) ∧ Box W w2.heap.size (.string v.o) (.string v.nm) (.int .i64 v.n) (.slice v.A v.ll v.cap) (.int .i64 v.p) ∧ Box W w4.heap.size (.string u.o) (.string u.nm) (.int .i64 u.n) (.slice u.A u.ll u.cap) (.int .i64 u.p) ∧ XO W (w.heap.size + 2) (st.low D).1 v.c ∧ XO W (w.heap.size + 2) (st.high D).1 u.c ∧ Fx (X2 xb rb) w W) ⟨HM4.out.alloc _, HB4.out.alloc _, HC4.out.alloc _, HE4.out.alloc _, Box.new _ _ _ _ _ _, HX4.out.alloc _, HU4.out.alloc _, HF4.out.alloc _⟩ ?_
  rintro W ⟨hM, hB, hC, hE, hG, hX, hU, hF⟩
  refine (mwant_any W hM _).mono ?_
  rintro e w5 ⟨rfl, hM5, hF5⟩
  have HM5 := Lib.hid (show MRd w5 xb rb b D ((st.high D).2.want [93]) from hM5)
  have hB5 := hB.fxb hF5 (HN.out _ (Nat.le_refl _))
  have hC5 := hC.fxb hF5 (HN.out _ (by omega))
  have hE5 := hE.fxb hF5 (HN.out _ (by omega))
  have hG5 := hG.fxb hF5 (HN.out _ (by omega))
  have HX5 := Lib.hid (hX.fx hF5 (fun k hk => by have := x2_lt hk hx hrb; omega))
  have HU5 := Lib.hid (hU.fx hF5 (fun k hk => by have := x2_lt hk hx hrb; omega))
  have HF5 := Lib.hid (hF.trans hF5)
  obtain ⟨a0, a1, a2, a3, a4⟩ := hB5.cells
  obtain ⟨y0, y1, y2, y3, y4⟩ := hB5.frozen
  obtain ⟨c0, c1, c2, c3, c4⟩ := hC5.cells
  obtain ⟨z0, z1, z2, z3, z4⟩ := hC5.frozen
  obtain ⟨d0, d1, d2, d3, d4⟩ := hE5.cells
  obtain ⟨k0, k1, k2, k3, k4⟩ := hG5.cells
  have hl1 := hB5.lt
  have hl2 := hC5.lt
  have hl3 := hE5.lt
  have hl4 := hG5.lt
  have HB5 := Lib.hid hB5
  have HC5 := Lib.hid hC5
  clear hM hB hC hE hG hX hU hF hM5 hF5 hB5 hC5 hE5 hG5 HM4 HB4 HC4 HE4 HX4 HU4 HF4
  have e1 : w.heap.size ≠ w4.heap.size := by omega
  have e2 : w.heap.size ≠ w2.heap.size := by omega
  have e3 : w.heap.size + 1 ≠ w4.heap.size := by omega
  have e4 : w.heap.size + 1 ≠ w2.heap.size := by omega
  go_wp2_with fail
  go_region
  go_wp2_with fail
  have hB6 := (HB5.out.set5 (.string v.o) (.string v.nm) (.int .i64 v.n) (.slice v.A v.ll v.cap) (.int .i64 v.p)).far5 (b' := w.heap.size + 1) (by omega) (.string u.o) (.string u.nm) (.int .i64 u.n) (.slice u.A u.ll u.cap) (.int .i64 u.p)
  have hC6 := (HC5.out.far5 (b' := w.heap.size) (by omega) (.string v.o) (.string v.nm) (.int .i64 v.n) (.slice v.A v.ll v.cap) (.int .i64 v.p)).set5 (.string u.o) (.string u.nm) (.int .i64 u.n) (.slice u.A u.ll u.cap) (.int .i64 u.p)
  obtain ⟨m0, m1, m2, m3, m4⟩ := hB6.cells
  obtain ⟨p0, p1, p2, p3, p4⟩ := hC6.cells
  refine bodyPost_ret (v := .tuple #[.agg #[.string v.o, .string v.nm, .int .i64 v.n, .slice v.A v.ll v.cap, .int .i64 v.p], .agg #[.string u.o, .string u.nm, .int .i64 u.n, .slice u.A u.ll u.cap, .int .i64 u.p]]) (by simp [results, Tryz.results242, go_sem, m0, m1, m2, m3, m4, p0, p1, p2, p3, p4]) rfl ⟨v, u, rfl, ?_, ?_, ?_, ?_⟩
  · exact (((HX5.out.set5 (q := w.heap.size) (by omega) (.string v.o) (.string v.nm) (.int .i64 v.n) (.slice v.A v.ll v.cap) (.int .i64 v.p)).set5 (q := w.heap.size + 1) (by omega) (.string u.o) (.string u.nm) (.int .i64 u.n) (.slice u.A u.ll u.cap) (.int .i64 u.p)).mono (by omega)).below (Below.refl _ _).drew
  · exact (((HU5.out.set5 (q := w.heap.size) (by omega) (.string v.o) (.string v.nm) (.int .i64 v.n) (.slice v.A v.ll v.cap) (.int .i64 v.p)).set5 (q := w.heap.size + 1) (by omega) (.string u.o) (.string u.nm) (.int .i64 u.n) (.slice u.A u.ll u.cap) (.int .i64 u.p)).mono (by omega)).below (Below.refl _ _).drew
  · exact ((HM5.out.set5 HB5.out (by omega) (.string v.o) (.string v.nm) (.int .i64 v.n) (.slice v.A v.ll v.cap) (.int .i64 v.p)).set5 (HC5.out.far5 (b' := w.heap.size) (by omega) (.string v.o) (.string v.nm) (.int .i64 v.n) (.slice v.A v.ll v.cap) (.int .i64 v.p)) (by omega) (.string u.o) (.string u.nm) (.int .i64 u.n) (.slice u.A u.ll u.cap) (.int .i64 u.p)).drew
  · exact ((HF5.out.set5 (q := w.heap.size) (Nat.le_refl _) (.string v.o) (.string v.nm) (.int .i64 v.n) (.slice v.A v.ll v.cap) (.int .i64 v.p)).set5 (q := w.heap.size + 1) (by omega) (.string u.o) (.string u.nm) (.int .i64 u.n) (.slice u.A u.ll u.cap) (.int .i64 u.p)).drew
end
end Go.Proofs.YtddeplbgihcdkaaGreatDoor
