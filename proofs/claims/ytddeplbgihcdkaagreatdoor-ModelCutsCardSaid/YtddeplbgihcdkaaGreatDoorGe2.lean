/-
  A variable, walked (one way).
-/
import Derived.Test.YtddeplbgihcdkaaGreatDoorGe0
import Derived.Deep.AppendLies
namespace Go.Proofs.YtddeplbgihcdkaaGreatDoor
open Go.RowKit

section
variable {xb rb b D : Nat} {st : St}
set_option maxHeartbeats 8000000 in
set_option maxRecDepth 100000 in
theorem mvar_2 (w : World) (h : MRd w xb rb b D st) (hi : isT (st.name.2.want [58]).hd wBool = true) (hi2 : isT ((st.name.2.want [58]).vals D).2.hd wInit = false) : Calls Tryz.prog 216 #[.pointer (some ⟨xb, 0, none⟩)] w (VmP xb rb b D (st.vrbl D) w) := by
  have hx := h.ltx
  have hrb := h.hr
  have HN := Lib.hid h.nx
  have hbl := h.ble
  have H := Lib.hid h
  clear h
  go_enter Tryz.func216, Tryz.ntmps216
  go_wp2_with fail
  refine calls_gen (P := fun W => MRd W xb rb b D st ∧ Bx W w.heap.size 200 [.string ⟨#[]⟩, .bool false, .string ⟨#[]⟩, .string ⟨#[]⟩, .int .i64 0, .slice none 0 0, .int .i64 0, .string ⟨#[]⟩, .string ⟨#[]⟩, .int .i64 0, .slice none 0 0, .int .i64 0, .string ⟨#[]⟩, .string ⟨#[]⟩, .int .i64 0, .slice none 0 0, .int .i64 0, .bool false, .int .i64 0] ∧ Fx (X2 xb rb) w W) ⟨H.out.alloc _, Bx.new _ _ _, (Fx.refl _ _).alloc _⟩ ?_
  rintro W ⟨hM, hB, hF⟩
  refine (mname_any W hM).mono ?_
  rintro e w1 ⟨rfl, hM1, hF1⟩
  have HM1 := Lib.hid hM1
  have HB1 := Lib.hid (hB.fx hF1 (HN.out _ (Nat.le_refl _)))
  have HF1 := Lib.hid (hF.trans hF1)
  have hs1 := HB1.out.lt
  clear hM hB hF hM1 hF1 H
  go_upto_region 2 with fail
  apply wp_region_lit
  refine Go.Great.wpList_runTo rfl (some 11) rfl (.string ⟨st.name.1.1.toArray⟩) w1 rfl ?_
  refine Go.Great.wpList_runTo rfl (some 12) rfl (.int .i64 ((st.name.1.2 : Nat) : Int)) w1 rfl ?_
  refine Go.wpList_buildTo rfl 200 _ rfl (some 13) rfl #[.string ⟨st.name.1.1.toArray⟩, .bool false, .string ⟨#[]⟩, .string ⟨#[]⟩, .int .i64 0, .slice none 0 0, .int .i64 0, .string ⟨#[]⟩, .string ⟨#[]⟩, .int .i64 0, .slice none 0 0, .int .i64 0, .string ⟨#[]⟩, .string ⟨#[]⟩, .int .i64 0, .slice none 0 0, .int .i64 0, .bool false, .int .i64 ((st.name.1.2 : Nat) : Int)] (by kernel_rfl) ?_
  refine Go.Great.wpList_runTo rfl (some 5) rfl (.pointer (some ⟨w1.heap.size, 0, none⟩)) (w1.alloc (.cells #[.string ⟨#[]⟩, .bool false, .string ⟨#[]⟩, .string ⟨#[]⟩, .int .i64 0, .slice none 0 0, .int .i64 0, .string ⟨#[]⟩, .string ⟨#[]⟩, .int .i64 0, .slice none 0 0, .int .i64 0, .string ⟨#[]⟩, .string ⟨#[]⟩, .int .i64 0, .slice none 0 0, .int .i64 0, .bool false, .int .i64 0] 200)) (by kernel_rfl) ?_
  refine Go.wpList_store_rowTo rfl 200 _ _ rfl rfl w1.heap.size #[.string ⟨st.name.1.1.toArray⟩, .bool false, .string ⟨#[]⟩, .string ⟨#[]⟩, .int .i64 0, .slice none 0 0, .int .i64 0, .string ⟨#[]⟩, .string ⟨#[]⟩, .int .i64 0, .slice none 0 0, .int .i64 0, .string ⟨#[]⟩, .string ⟨#[]⟩, .int .i64 0, .slice none 0 0, .int .i64 0, .bool false, .int .i64 ((st.name.1.2 : Nat) : Int)] rfl rfl 200 #[.string ⟨#[]⟩, .bool false, .string ⟨#[]⟩, .string ⟨#[]⟩, .int .i64 0, .slice none 0 0, .int .i64 0, .string ⟨#[]⟩, .string ⟨#[]⟩, .int .i64 0, .slice none 0 0, .int .i64 0, .string ⟨#[]⟩, .string ⟨#[]⟩, .int .i64 0, .slice none 0 0, .int .i64 0, .bool false, .int .i64 0] (heap_alloc_new w1 _) (by kernel_rfl) rfl (by simp [Value.oneCell']) ?_
  rw [World.setRow_alloc_new]
  apply wpList_nil
  go_wp2_with fail
  refine calls_gen (P := fun W => MRd W xb rb b D st.name.2 ∧ Bx W w.heap.size 200 [.string ⟨#[]⟩, .bool false, .string ⟨#[]⟩, .string ⟨#[]⟩, .int .i64 0, .slice none 0 0, .int .i64 0, .string ⟨#[]⟩, .string ⟨#[]⟩, .int .i64 0, .slice none 0 0, .int .i64 0, .string ⟨#[]⟩, .string ⟨#[]⟩, .int .i64 0, .slice none 0 0, .int .i64 0, .bool false, .int .i64 0] ∧ Bx W w1.heap.size 200 [.string ⟨st.name.1.1.toArray⟩, .bool false, .string ⟨#[]⟩, .string ⟨#[]⟩, .int .i64 0, .slice none 0 0, .int .i64 0, .string ⟨#[]⟩, .string ⟨#[]⟩, .int .i64 0, .slice none 0 0, .int .i64 0, .string ⟨#[]⟩, .string ⟨#[]⟩, .int .i64 0, .slice none 0 0, .int .i64 0, .bool false, .int .i64 ((st.name.1.2 : Nat) : Int)] ∧ Fx (X2 xb rb) w W) ⟨HM1.out.alloc _, HB1.out.alloc _, Bx.new _ _ _, HF1.out.alloc _⟩ ?_
  rintro W ⟨hM, hB, hC, hF⟩
  refine (mwant_any W hM _).mono ?_
  rintro e w2 ⟨rfl, hM2, hF2⟩
  have HM2 := Lib.hid (show MRd w2 xb rb b D (st.name.2.want [58]) from hM2)
  have hC2 := hC.fx hF2 (HN.out _ (by omega))
  have HC2 := Lib.hid hC2
  have HB2 := Lib.hid (hB.fx hF2 (HN.out _ (Nat.le_refl _)))
  have HF2 := Lib.hid (hF.trans hF2)
  have c0 := HM2.out.c0
  have hx2 := HM2.out.ltx
  have hl2 := HC2.out.lt
  clear hM hB hC hF hM2 hF2 hC2 HM1 HB1 HF1
  go_wp2_with fail
  have HV := Lib.hid (show (st.name.2.want [58]).vals D = ((true, none, none), (st.name.2.want [58]).tl) by simp [St.vals, hi])
  refine (HM2.out.skip_yes ⟨#[98, 111, 111, 108]⟩ hi).mono ?_
  rintro e w3 ⟨rfl, hM3, hF3⟩
  have HM3 := Lib.hid hM3
  have HB3 := Lib.hid (HB2.out.fx hF3 (HN.out _ (Nat.le_refl _)))
  have hC3 := HC2.out.fx hF3 (HN.out _ (by omega))
  have HF3 := Lib.hid (HF2.out.trans hF3)
  have a1 := hC3.cell 1
  simp only [List.getElem?_cons_zero, List.getElem?_cons_succ] at a1
  have z1 := hC3.frozen 1
  have hl3 := hC3.lt
  have hxn : xb ≠ w1.heap.size := by omega
  have c3 := HM3.out.c0
  have hx3 := HM3.out.ltx
  have HC3 := Lib.hid hC3
  clear hM3 hF3 hC3 hi HM2 HB2 HC2 HF2 c0
  go_wp2_with fail
  have et : (st.name.2.want [58]).tl.ptr rb = ((st.name.2.want [58]).vals D).2.ptr rb := by rw [HV.out]
  rw [et]
  refine calls_gen (P := fun W => MRd W xb rb b D ((st.name.2.want [58]).vals D).2 ∧ Bx W w.heap.size 200 [.string ⟨#[]⟩, .bool false, .string ⟨#[]⟩, .string ⟨#[]⟩, .int .i64 0, .slice none 0 0, .int .i64 0, .string ⟨#[]⟩, .string ⟨#[]⟩, .int .i64 0, .slice none 0 0, .int .i64 0, .string ⟨#[]⟩, .string ⟨#[]⟩, .int .i64 0, .slice none 0 0, .int .i64 0, .bool false, .int .i64 0] ∧ Bx W w1.heap.size 200 [.string ⟨st.name.1.1.toArray⟩, .bool ((st.name.2.want [58]).vals D).1.1, .string xv0.o, .string xv0.nm, .int .i64 xv0.n, .slice xv0.A xv0.ll xv0.cap, .int .i64 xv0.p, .string xv0.o, .string xv0.nm, .int .i64 xv0.n, .slice xv0.A xv0.ll xv0.cap, .int .i64 xv0.p, .string xv0.o, .string xv0.nm, .int .i64 xv0.n, .slice xv0.A xv0.ll xv0.cap, .int .i64 xv0.p, .bool false, .int .i64 ((st.name.1.2 : Nat) : Int)] ∧ XO W (w.heap.size + 1) ((st.name.2.want [58]).vals D).1.2.1 xv0.c ∧ XO W (w.heap.size + 1) ((st.name.2.want [58]).vals D).1.2.2 xv0.c ∧ Fx (X2 xb rb) w W) ⟨by rw [HV.out]; exact HM3.out.set HC3.out (by unfold RdT; decide) (by omega) _, HB3.out.far (p := ⟨w1.heap.size, 1, none⟩) (by show w.heap.size ≠ w1.heap.size; omega) _, by rw [HV.out]; exact HC3.out.set 1 _, by rw [HV.out]; rfl, by rw [HV.out]; rfl, HF3.out.setCell (p := ⟨w1.heap.size, 1, none⟩) (.inl (by show _ ≤ w1.heap.size; omega)) _⟩ ?_
  rintro W ⟨hM, hB, hC, hX1, hX2, hF⟩
  clear a1 z1 c3 hx3 et HM3 HB3 HC3 HF3
  have HI := Lib.hid (show ((st.name.2.want [58]).vals D).2.init D = ((none, false), ((st.name.2.want [58]).vals D).2) by simp [St.init, hi2])
  refine (hM.skip_no ⟨#[105, 110, 105, 116]⟩ hi2).mono ?_
  rintro e w4 ⟨rfl, hb4⟩
  have HM4 := Lib.hid (hM.below hb4)
  have HB4 := Lib.hid (hB.below hb4)
  have HC4 := Lib.hid (hC.below hb4)
  have HX14 := Lib.hid (hX1.below hb4)
  have HX24 := Lib.hid (hX2.below hb4)
  have HF4 := Lib.hid (hF.on hb4)
  clear hM hB hC hX1 hX2 hF hb4 hi2
  go_wp2_with fail
  refine calls_gen (P := fun W => MRd W xb rb b D (((st.name.2.want [58]).vals D).2.init D).2 ∧ Bx W w.heap.size 200 [.string ⟨#[]⟩, .bool false, .string ⟨#[]⟩, .string ⟨#[]⟩, .int .i64 0, .slice none 0 0, .int .i64 0, .string ⟨#[]⟩, .string ⟨#[]⟩, .int .i64 0, .slice none 0 0, .int .i64 0, .string ⟨#[]⟩, .string ⟨#[]⟩, .int .i64 0, .slice none 0 0, .int .i64 0, .bool false, .int .i64 0] ∧ Bx W w1.heap.size 200 [.string ⟨st.name.1.1.toArray⟩, .bool ((st.name.2.want [58]).vals D).1.1, .string xv0.o, .string xv0.nm, .int .i64 xv0.n, .slice xv0.A xv0.ll xv0.cap, .int .i64 xv0.p, .string xv0.o, .string xv0.nm, .int .i64 xv0.n, .slice xv0.A xv0.ll xv0.cap, .int .i64 xv0.p, .string xv0.o, .string xv0.nm, .int .i64 xv0.n, .slice xv0.A xv0.ll xv0.cap, .int .i64 xv0.p, .bool (((st.name.2.want [58]).vals D).2.init D).1.2, .int .i64 ((st.name.1.2 : Nat) : Int)] ∧ XO W (w.heap.size + 1) ((st.name.2.want [58]).vals D).1.2.1 xv0.c ∧ XO W (w.heap.size + 1) ((st.name.2.want [58]).vals D).1.2.2 xv0.c ∧ XO W (w.heap.size + 1) (((st.name.2.want [58]).vals D).2.init D).1.1 xv0.c ∧ Fx (X2 xb rb) w W) ⟨by rw [HI.out]; exact HM4.out, HB4.out, by rw [HI.out]; exact HC4.out, HX14.out, HX24.out, by rw [HI.out]; rfl, HF4.out⟩ ?_
  rintro W9 ⟨hM, hB, hC, hX1, hX2, hX3, hF⟩
  refine (mwant_any W9 hM _).mono ?_
  rintro e wZ ⟨rfl, hMZ, hFZ⟩
  have HMZ := Lib.hid (show MRd wZ xb rb b D (st.vrbl D).2 from hMZ)
  have hBZ := hB.fx hFZ (HN.out _ (Nat.le_refl _))
  have hCZ := hC.fx hFZ (HN.out _ (by omega))
  have hkZ : Kt (w.heap.size + 1) E0 W9 wZ := Kt.fx hFZ (fun k hk => by have := x2_lt hk hx hrb; omega)
  have HX1 := Lib.hid (hX1.keep hkZ id)
  have HX2 := Lib.hid (hX2.keep hkZ id)
  have HX3 := Lib.hid (hX3.keep hkZ id)
  have HFZ := Lib.hid (hF.trans hFZ)
  have hlZ := hCZ.lt
  have hlB := hBZ.lt
  have HBZ := Lib.hid hBZ
  have HCZ := Lib.hid hCZ
  clear hM hB hC hX1 hX2 hX3 hF hMZ hFZ hBZ hCZ hkZ HM4 HB4 HC4 HX14 HX24 HF4
  go_upto_region 10 with fail
  apply wp_region_lit
  refine wpList_load_row rfl 200 _ rfl w1.heap.size rfl 200 #[.string ⟨st.name.1.1.toArray⟩, .bool ((st.name.2.want [58]).vals D).1.1, .string xv0.o, .string xv0.nm, .int .i64 xv0.n, .slice xv0.A xv0.ll xv0.cap, .int .i64 xv0.p, .string xv0.o, .string xv0.nm, .int .i64 xv0.n, .slice xv0.A xv0.ll xv0.cap, .int .i64 xv0.p, .string xv0.o, .string xv0.nm, .int .i64 xv0.n, .slice xv0.A xv0.ll xv0.cap, .int .i64 xv0.p, .bool (((st.name.2.want [58]).vals D).2.init D).1.2, .int .i64 ((st.name.1.2 : Nat) : Int)] (0, 0) _ HCZ.out Tryz.underlying200 rfl (by kernel_rfl) ?_
  refine Go.wpList_store_rowTo rfl 200 _ _ rfl rfl w.heap.size #[.string ⟨st.name.1.1.toArray⟩, .bool ((st.name.2.want [58]).vals D).1.1, .string xv0.o, .string xv0.nm, .int .i64 xv0.n, .slice xv0.A xv0.ll xv0.cap, .int .i64 xv0.p, .string xv0.o, .string xv0.nm, .int .i64 xv0.n, .slice xv0.A xv0.ll xv0.cap, .int .i64 xv0.p, .string xv0.o, .string xv0.nm, .int .i64 xv0.n, .slice xv0.A xv0.ll xv0.cap, .int .i64 xv0.p, .bool (((st.name.2.want [58]).vals D).2.init D).1.2, .int .i64 ((st.name.1.2 : Nat) : Int)] rfl rfl 200 #[.string ⟨#[]⟩, .bool false, .string ⟨#[]⟩, .string ⟨#[]⟩, .int .i64 0, .slice none 0 0, .int .i64 0, .string ⟨#[]⟩, .string ⟨#[]⟩, .int .i64 0, .slice none 0 0, .int .i64 0, .string ⟨#[]⟩, .string ⟨#[]⟩, .int .i64 0, .slice none 0 0, .int .i64 0, .bool false, .int .i64 0] HBZ.out (by kernel_rfl) rfl (by simp [Value.oneCell']) ?_
  apply wpList_nil
  go_wp2
  refine bodyPost_ret (v := .agg #[.string ⟨st.name.1.1.toArray⟩, .bool ((st.name.2.want [58]).vals D).1.1, .string xv0.o, .string xv0.nm, .int .i64 xv0.n, .slice xv0.A xv0.ll xv0.cap, .int .i64 xv0.p, .string xv0.o, .string xv0.nm, .int .i64 xv0.n, .slice xv0.A xv0.ll xv0.cap, .int .i64 xv0.p, .string xv0.o, .string xv0.nm, .int .i64 xv0.n, .slice xv0.A xv0.ll xv0.cap, .int .i64 xv0.p, .bool (((st.name.2.want [58]).vals D).2.init D).1.2, .int .i64 ((st.name.1.2 : Nat) : Int)]) (results_cell_row rfl _ _ w.heap.size 200 #[.string ⟨st.name.1.1.toArray⟩, .bool ((st.name.2.want [58]).vals D).1.1, .string xv0.o, .string xv0.nm, .int .i64 xv0.n, .slice xv0.A xv0.ll xv0.cap, .int .i64 xv0.p, .string xv0.o, .string xv0.nm, .int .i64 xv0.n, .slice xv0.A xv0.ll xv0.cap, .int .i64 xv0.p, .string xv0.o, .string xv0.nm, .int .i64 xv0.n, .slice xv0.A xv0.ll xv0.cap, .int .i64 xv0.p, .bool (((st.name.2.want [58]).vals D).2.init D).1.2, .int .i64 ((st.name.1.2 : Nat) : Int)] (0, 0) _ rfl (row_at HBZ.out _) Tryz.underlying200 rfl (by kernel_rfl)) rfl ⟨xv0, xv0, xv0, rfl, ?_, ?_, ?_, ?_, ?_⟩
  · exact HX1.out.keep (E := E0) (fun k _ _ hk _ _ => row_far (by omega)) id
  · exact HX2.out.keep (E := E0) (fun k _ _ hk _ _ => row_far (by omega)) id
  · exact HX3.out.keep (E := E0) (fun k _ _ hk _ _ => row_far (by omega)) id
  · exact HMZ.out.keep (fun k _ _ hk he => row_far (fun e => by subst e; exact absurd (blk_typ hk HBZ.out) (fun e2 => by subst e2; exact absurd he (by unfold RdT; decide)))) (fun k hk => row_far (by omega)) (row_size _ _ _)
  · exact ⟨HFZ.out.os, HFZ.out.tape, HFZ.out.output, Nat.le_trans HFZ.out.size (row_size _ _ _), fun k hk hn => (row_far (by omega)).trans (HFZ.out.block k hk hn)⟩
end
end Go.Proofs.YtddeplbgihcdkaaGreatDoor
