/-
  Settings and weights of a reader of models, walked.
-/
import Derived.Test.YtddeplbgihcdkaaGreatDoorG7
namespace Go.Proofs.YtddeplbgihcdkaaGreatDoor
open Go.RowKit

section
variable {xb rb b D : Nat} {st : St}
set_option maxHeartbeats 2000000 in
theorem msett_any (w : World) (h : MRd w xb rb b D st) : Calls Tryz.prog 263 #[.pointer (some ⟨xb, 0, none⟩)] w (DmP xb rb b D (st.sett D) w) := by
  have hx := h.ltx
  have hrb := h.hr
  have HN := Lib.hid h.nx
  have hbl := h.ble
  have H := Lib.hid h
  clear h
  go_enter Tryz.func263, Tryz.ntmps263
  go_wp2_with fail
  refine calls_gen (P := fun W => MRd W xb rb b D st ∧ Bx W w.heap.size 201 [.string ⟨#[]⟩, .string ⟨#[]⟩, .string ⟨#[]⟩, .int .i64 0, .slice none 0 0, .int .i64 0, .int .i64 0] ∧ Fx (X2 xb rb) w W) ⟨H.out.alloc _, Bx.new _ _ _, (Fx.refl _ _).alloc _⟩ ?_
  rintro W ⟨hM, hB, hF⟩
  refine (mwant_any W hM _).mono ?_
  rintro e w1 ⟨rfl, hM1, hF1⟩
  have HM1 := Lib.hid (show MRd w1 xb rb b D (st.want [40]) from hM1)
  have HB1 := Lib.hid (hB.fx hF1 (HN.out _ (Nat.le_refl _)))
  have HF1 := Lib.hid (hF.trans hF1)
  clear hM hB hF hM1 hF1 H
  go_wp2_with fail
  refine (mname_any w1 HM1.out).mono ?_
  rintro e w2 ⟨rfl, hM2, hF2⟩
  have HM2 := Lib.hid hM2
  have HB2 := Lib.hid (HB1.out.fx hF2 (HN.out _ (Nat.le_refl _)))
  have HF2 := Lib.hid (HF1.out.trans hF2)
  clear hM2 hF2 HM1 HB1 HF1
  go_wp2_with fail
  refine (mwant_any w2 HM2.out _).mono ?_
  rintro e w3 ⟨rfl, hM3, hF3⟩
  have HM3 := Lib.hid (show MRd w3 xb rb b D ((st.want [40]).name.2.want [39]) from hM3)
  have HB3 := Lib.hid (HB2.out.fx hF3 (HN.out _ (Nat.le_refl _)))
  have HF3 := Lib.hid (HF2.out.trans hF3)
  clear hM3 hF3 HM2 HB2 HF2
  go_wp2_with fail
  refine (mwant_any w3 HM3.out _).mono ?_
  rintro e w4 ⟨rfl, hM4, hF4⟩
  have HM4 := Lib.hid (show MRd w4 xb rb b D (((st.want [40]).name.2.want [39]).want [61]) from hM4)
  have HB4 := Lib.hid (HB3.out.fx hF4 (HN.out _ (Nat.le_refl _)))
  have HF4 := Lib.hid (HF3.out.trans hF4)
  clear hM4 hF4 HM3 HB3 HF3
  go_wp2_with fail
  refine (mexpr_any w4 HM4.out).mono ?_
  rintro e w5 ⟨v, rfl, hX, hM5, hF5⟩
  have HM5 := Lib.hid hM5
  have HX5 := Lib.hid (hX.mono (by have := HF4.out.size; omega : w.heap.size + 1 ≤ w4.heap.size + 1))
  have HB5 := Lib.hid (HB4.out.fx hF5 (HN.out _ (Nat.le_refl _)))
  have HF5 := Lib.hid (HF4.out.trans hF5)
  have hs5 := HB5.out.lt
  clear hX hM5 hF5 HM4 HB4 HF4
  go_wp2_with fail
  refine calls_gen (P := fun W => MRd W xb rb b D ((((st.want [40]).name.2.want [39]).want [61]).expr D).2 ∧ Bx W w.heap.size 201 [.string ⟨#[]⟩, .string ⟨#[]⟩, .string ⟨#[]⟩, .int .i64 0, .slice none 0 0, .int .i64 0, .int .i64 0] ∧ Box W w5.heap.size (.string v.o) (.string v.nm) (.int .i64 v.n) (.slice v.A v.ll v.cap) (.int .i64 v.p) ∧ XO W (w.heap.size + 1) ((((st.want [40]).name.2.want [39]).want [61]).expr D).1 v.c ∧ Fx (X2 xb rb) w W) ⟨HM5.out.alloc _, HB5.out.alloc _, Box.new _ _ _ _ _ _, HX5.out.alloc _, HF5.out.alloc _⟩ ?_
  rintro W ⟨hM, hB, hE, hX, hF⟩
  refine (mwant_any W hM _).mono ?_
  rintro e w6 ⟨rfl, hM6, hF6⟩
  have HM6 := Lib.hid (show MRd w6 xb rb b D (st.sett D).2 from hM6)
  have hB6 := hB.fx hF6 (HN.out _ (Nat.le_refl _))
  have hE6 := hE.fxb hF6 (HN.out _ (by omega))
  have HX6 := Lib.hid (hX.fx hF6 (fun k hk => by have := x2_lt hk hx hrb; omega))
  have HF6 := Lib.hid (hF.trans hF6)
  obtain ⟨d0, d1, d2, d3, d4⟩ := hE6.cells
  have a0 := hB6.cell 0
  have a1 := hB6.cell 1
  have a2 := hB6.cell 2
  have a3 := hB6.cell 3
  have a4 := hB6.cell 4
  have a5 := hB6.cell 5
  have a6 := hB6.cell 6
  simp only [List.getElem?_cons_zero, List.getElem?_cons_succ] at a0 a1 a2 a3 a4 a5 a6
  have y0 := hB6.frozen 0
  have y1 := hB6.frozen 1
  have y2 := hB6.frozen 2
  have y3 := hB6.frozen 3
  have y4 := hB6.frozen 4
  have y5 := hB6.frozen 5
  have y6 := hB6.frozen 6
  have hl1 := hB6.lt
  have hl2 := hE6.lt
  have HB6 := Lib.hid hB6
  clear hM hB hE hX hF hM6 hF6 hB6 hE6 HM5 HB5 HX5 HF5
  go_wp2
  have hB7 := HB6.out.setL (i := 0) (us := [.string ⟨(st.want [40]).name.1.1.toArray⟩, .string v.o, .string v.nm, .int .i64 v.n, .slice v.A v.ll v.cap, .int .i64 v.p, .int .i64 (((st.want [40]).name.1.2 : Nat) : Int)])
  simp only [setL, setLs, List.set_cons_zero, List.set_cons_succ] at hB7
  refine bodyPost_ret (v := .agg #[.string ⟨(st.want [40]).name.1.1.toArray⟩, .string v.o, .string v.nm, .int .i64 v.n, .slice v.A v.ll v.cap, .int .i64 v.p, .int .i64 (((st.want [40]).name.1.2 : Nat) : Int)]) (by simp [results, Tryz.results263, go_sem, hB7.cell]) rfl ⟨v, rfl, ?_, ?_, ?_⟩
  · exact XO.setL (i := 0) (us := [.string ⟨(st.want [40]).name.1.1.toArray⟩, .string v.o, .string v.nm, .int .i64 v.n, .slice v.A v.ll v.cap, .int .i64 v.p, .int .i64 (((st.want [40]).name.1.2 : Nat) : Int)]) HX6.out (by omega)
  · exact MRd.setL (i := 0) (us := [.string ⟨(st.want [40]).name.1.1.toArray⟩, .string v.o, .string v.nm, .int .i64 v.n, .slice v.A v.ll v.cap, .int .i64 v.p, .int .i64 (((st.want [40]).name.1.2 : Nat) : Int)]) (by unfold RdT; decide) (by omega) HM6.out HB6.out
  · exact Fx.setL (i := 0) (us := [.string ⟨(st.want [40]).name.1.1.toArray⟩, .string v.o, .string v.nm, .int .i64 v.n, .slice v.A v.ll v.cap, .int .i64 v.p, .int .i64 (((st.want [40]).name.1.2 : Nat) : Int)]) (.inl (Nat.le_refl _)) HF6.out
theorem MRd.number_yes {w : World} (h : MRd w xb rb b D st) (hk : st.hd.kind = 2) : Calls Tryz.prog 272 #[.pointer (st.ptr rb)] w fun e w' => e = .returned (.tuple #[.int .i64 (valOf st.hd.text), .nilIface]) ∧ MRd w' xb rb b D st.tl ∧ Fx (X2 xb rb) w w' := by
  have h0 : st.hd.kind ≠ 0 := by omega
  obtain ⟨us, rfl⟩ := hd_good h0
  have hT : TR w rb us := h.tr
  obtain ⟨ts, k, h1, h2, h3⟩ := hT.get
  obtain ⟨n0, n1, n2⟩ := hT.fine.numb hk
  exact (Go.Proofs.YtddeplbgihcdkaaGreatDoor.number_yes h.glob h2 h3 hk (tr_len hT h1 h0) hT.fine.len n0 n1 n2).mono fun _ _ ⟨he, hR, hg⟩ => ⟨he, h.on h1 h0 hR hg⟩
theorem MRd.number_no {w : World} (h : MRd w xb rb b D st) (hk : st.hd.kind ≠ 2) : Calls Tryz.prog 272 #[.pointer (st.ptr rb)] w fun e w' => ∃ t u, e = .returned (.tuple #[.int .i64 0, .iface t u]) ∧ Below w.heap.size w w' := by
  cases st with
  | bad c p => exact (number_nil w).mono fun _ _ ⟨h1, h2⟩ => ⟨_, _, h1, h2⟩
  | good us => exact (Go.Proofs.YtddeplbgihcdkaaGreatDoor.number_no h.peeks hk).mono fun _ _ ⟨eb, h1, _, _, h2⟩ => ⟨_, _, h1, h2⟩
def WmP (xb rb b D : Nat) (r : Nat × St) (w : World) (e : Ending) (w' : World) : Prop := e = .returned (.int .i64 ((r.1 : Nat) : Int)) ∧ MRd w' xb rb b D r.2 ∧ Fx (X2 xb rb) w w'
set_option maxHeartbeats 2000000 in
theorem mweight_any (w : World) (h : MRd w xb rb b D st) : Calls Tryz.prog 261 #[.pointer (some ⟨xb, 0, none⟩)] w (WmP xb rb b D st.wght w) := by
  have hx := h.ltx
  have c0 := h.c0
  have H := Lib.hid h
  have H1 := Lib.hid h.peek
  have hf0 := field0
  have hf1 := field1
  have hf2 := field2
  by_cases hk : st.hd.kind = 2
  · have HNU := Lib.hid (fun (W : World) (hW : MRd W xb rb b D st) => hW.number_yes hk)
    have h0 : st.hd.kind ≠ 0 := by omega
    by_cases hv : valOf st.hd.text = 0
    · have g1 : (((valOf st.hd.text : Nat) : Int) == 0) = true := by rw [hv]; rfl
      obtain ⟨us, hus⟩ := hd_good h0
      have HG := Lib.hid hus
      rw [show st.wght = (valOf st.hd.text, .bad 33 st.hd.pos) by simp [St.wght, hk, hv]]
      clear h hk h0 hv hus
      go_enter Tryz.func261, Tryz.ntmps261
      go_wp2_with fail
      with_reducible refine (H1.out).mono ?_
      rintro e w1 ⟨rfl, hb1⟩
      have c1 := (H.out.below hb1).c0
      have hx1 := (H.out.below hb1).ltx
      have HB := Lib.hid hb1
      clear hb1
      go_wp2_with fail
      refine (HNU.out _ (H.out.below HB.out)).mono ?_
      rintro e w2 ⟨rfl, hM, hF⟩
      have HM := Lib.hid (show MRd w2 xb rb b D (.good us.tail) by have := hM; rw [HG.out] at this; exact this)
      have HF := Lib.hid hF
      clear hM hF
      go_wp2_with fail
      refine (mfail_good (c := 33) (p := st.hd.pos) _ (HM.out.alloc _).mr0 (AtE.new rfl _ _)).mono ?_
      rintro e w3 ⟨rfl, hM, hF⟩
      have HM3 := Lib.hid hM
      have HF3 := Lib.hid hF
      clear hM hF
      go_wp2_with fail
      refine (mwant_any w3 HM3.out _).mono ?_
      rintro e w4 ⟨rfl, hM, hF⟩
      go_wp2
      go_ret
      exact ⟨rfl, hM, ((((Fx.of HB.out).trans HF.out).alloc _).trans HF3.out).trans hF⟩
    · have g1 : (((valOf st.hd.text : Nat) : Int) == 0) = false := by rw [beq_eq_false_iff_ne]; omega
      rw [show st.wght = (valOf st.hd.text, st.tl.want [58]) by simp [St.wght, hk, hv]]
      clear h hk h0 hv
      go_enter Tryz.func261, Tryz.ntmps261
      go_wp2_with fail
      with_reducible refine (H1.out).mono ?_
      rintro e w1 ⟨rfl, hb1⟩
      have c1 := (H.out.below hb1).c0
      have hx1 := (H.out.below hb1).ltx
      have HB := Lib.hid hb1
      clear hb1
      go_wp2_with fail
      refine (HNU.out _ (H.out.below HB.out)).mono ?_
      rintro e w2 ⟨rfl, hM, hF⟩
      have HM := Lib.hid hM
      have HF := Lib.hid hF
      clear hM hF
      go_wp2_with fail
      refine (mwant_any w2 HM.out _).mono ?_
      rintro e w4 ⟨rfl, hM, hF⟩
      go_wp2
      go_ret
      exact ⟨rfl, hM, ((Fx.of HB.out).trans HF.out).trans hF⟩
  · have HNU := Lib.hid (fun (W : World) (hW : MRd W xb rb b D st) => hW.number_no hk)
    rw [show st.wght = (1, st) by simp [St.wght, hk]]
    clear h hk
    go_enter Tryz.func261, Tryz.ntmps261
    go_wp2_with fail
    with_reducible refine (H1.out).mono ?_
    rintro e w1 ⟨rfl, hb1⟩
    have c1 := (H.out.below hb1).c0
    have hx1 := (H.out.below hb1).ltx
    have HB := Lib.hid hb1
    clear hb1
    go_wp2_with fail
    refine (HNU.out _ (H.out.below HB.out)).mono ?_
    rintro e w2 ⟨t, u, rfl, hb2⟩
    have HB2 := Lib.hid hb2
    clear hb2
    go_wp2
    go_ret
    exact ⟨rfl, (H.out.below HB.out).below HB2.out, (Fx.of HB.out).on HB2.out⟩
end
end Go.Proofs.YtddeplbgihcdkaaGreatDoor
