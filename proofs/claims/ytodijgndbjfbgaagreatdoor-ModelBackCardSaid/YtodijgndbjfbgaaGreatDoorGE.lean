/-
  A variable, walked. A variable, walked (one way). A variable, walked (one way). A variable, walked (one way). A variable, walked (one way). A variable, walked.
-/
import Derived.Test.YtodijgndbjfbgaaGreatDoorGC
import Derived.Deep.AppendLies
import Derived.Deep.WholeRow
import Derived.Great.Walk
import Derived.Great.BuildSlice
import Derived.Deep.Cut
namespace Go.Proofs.YtodijgndbjfbgaaGreatDoor
section
open Go.RowKit

section
variable {xb rb b D : Nat} {st : St}
/-- What a variable's reader tells. -/
def VmP (xb rb b D : Nat) (d : VarO × St) (w : World) (e : Ending) (w' : World) : Prop :=
  ∃ p q r : XV, e = .returned (.agg #[.string ⟨d.1.nm.toArray⟩, .bool d.1.isB, .string p.o, .string p.nm, .int .i64 p.n, .slice p.A p.ll p.cap, .int .i64 p.p, .string q.o, .string q.nm, .int .i64 q.n, .slice q.A q.ll q.cap, .int .i64 q.p, .string r.o, .string r.nm, .int .i64 r.n, .slice r.A r.ll r.cap, .int .i64 r.p, .bool d.1.has, .int .i64 ((d.1.pos : Nat) : Int)]) ∧ XO w' (w.heap.size + 1) d.1.low p.c ∧ XO w' (w.heap.size + 1) d.1.high q.c ∧ XO w' (w.heap.size + 1) d.1.ini r.c ∧ MRd w' xb rb b D d.2 ∧ Fx (X2 xb rb) w w'
theorem row_at {w : World} {q : Nat} {t : TypeId} {cs : List Value} (h : Bx w q t cs) (us : Array Value) : (w.setRow q us).heap[q]? = some (.cells us t (0, 0)) := by
  simp [World.setRow, Array.getElem?_modify, show w.heap[q]? = _ from h]
theorem row_far {w : World} {q k : Nat} {us : Array Value} (hk : k ≠ q) : (w.setRow q us).heap[k]? = w.heap[k]? := by
  simp [World.setRow, Array.getElem?_modify, Ne.symm hk]
theorem row_size (w : World) (q : Nat) (us : Array Value) : w.heap.size ≤ (w.setRow q us).heap.size := by simp [World.setRow]
theorem Kt.var {w : World} {c q : Nat} {cs : List Value} {i : Nat} {us : List Value} (h : Bx w q 112 cs) : Kt c (fun e => e = 112) w (Go.Proofs.YtodijgndbjfbgaaGreatDoor.setL w q i us) := fun k _ _ _ h1 h2 => setL_heap (show k ≠ q from fun hkq => h2 (blk_typ (hkq ▸ h1) h)) us w i
end
end
section
open Go.RowKit

section
variable {xb rb b D : Nat} {st : St}
set_option maxHeartbeats 8000000 in
set_option maxRecDepth 100000 in
theorem mvar_1 (w : World) (h : MRd w xb rb b D st) (hi : isT (st.name.2.want [58]).hd wBool = true) (hi2 : isT ((st.name.2.want [58]).vals D).2.hd wInit = true) : Calls Tryz.prog 109 #[.pointer (some ⟨xb, 0, none⟩)] w (VmP xb rb b D (st.vrbl D) w) := by
  have hx := h.ltx
  have hrb := h.hr
  have HN := Lib.hid h.nx
  have hbl := h.ble
  have H := Lib.hid h
  clear h
  go_enter Tryz.func109, Tryz.ntmps109
  go_wp2_with fail
  refine calls_gen (P := fun W => MRd W xb rb b D st ∧ Bx W w.heap.size 112 [.string ⟨#[]⟩, .bool false, .string ⟨#[]⟩, .string ⟨#[]⟩, .int .i64 0, .slice none 0 0, .int .i64 0, .string ⟨#[]⟩, .string ⟨#[]⟩, .int .i64 0, .slice none 0 0, .int .i64 0, .string ⟨#[]⟩, .string ⟨#[]⟩, .int .i64 0, .slice none 0 0, .int .i64 0, .bool false, .int .i64 0] ∧ Fx (X2 xb rb) w W) ⟨H.out.alloc _, Bx.new _ _ _, (Fx.refl _ _).alloc _⟩ ?_
  rintro W ⟨hM, hB, hF⟩
  refine (mname_any W hM).mono ?_
  rintro e w1 ⟨rfl, hM1, hF1⟩
  have HM1 := Lib.hid hM1
  have HB1 := Lib.hid (hB.fx hF1 (HN.out _ (Nat.le_refl _)))
  have HF1 := Lib.hid (hF.trans hF1)
  have hs1 := HB1.out.lt
  clear hM hB hF hM1 hF1 H
  go_upto_region 2 with fail
  apply wp_region_lit
  refine Go.Great.wpList_runTo rfl (some 11) rfl (.string ⟨st.name.1.1.toArray⟩) w1 rfl ?_
  refine Go.Great.wpList_runTo rfl (some 12) rfl (.int .i64 ((st.name.1.2 : Nat) : Int)) w1 rfl ?_
  refine Go.wpList_buildTo rfl 112 _ rfl (some 13) rfl #[.string ⟨st.name.1.1.toArray⟩, .bool false, .string ⟨#[]⟩, .string ⟨#[]⟩, .int .i64 0, .slice none 0 0, .int .i64 0, .string ⟨#[]⟩, .string ⟨#[]⟩, .int .i64 0, .slice none 0 0, .int .i64 0, .string ⟨#[]⟩, .string ⟨#[]⟩, .int .i64 0, .slice none 0 0, .int .i64 0, .bool false, .int .i64 ((st.name.1.2 : Nat) : Int)] (by kernel_rfl) ?_
  refine Go.Great.wpList_runTo rfl (some 5) rfl (.pointer (some ⟨w1.heap.size, 0, none⟩)) (w1.alloc (.cells #[.string ⟨#[]⟩, .bool false, .string ⟨#[]⟩, .string ⟨#[]⟩, .int .i64 0, .slice none 0 0, .int .i64 0, .string ⟨#[]⟩, .string ⟨#[]⟩, .int .i64 0, .slice none 0 0, .int .i64 0, .string ⟨#[]⟩, .string ⟨#[]⟩, .int .i64 0, .slice none 0 0, .int .i64 0, .bool false, .int .i64 0] 112)) (by kernel_rfl) ?_
  refine Go.wpList_store_rowTo rfl 112 _ _ rfl rfl w1.heap.size #[.string ⟨st.name.1.1.toArray⟩, .bool false, .string ⟨#[]⟩, .string ⟨#[]⟩, .int .i64 0, .slice none 0 0, .int .i64 0, .string ⟨#[]⟩, .string ⟨#[]⟩, .int .i64 0, .slice none 0 0, .int .i64 0, .string ⟨#[]⟩, .string ⟨#[]⟩, .int .i64 0, .slice none 0 0, .int .i64 0, .bool false, .int .i64 ((st.name.1.2 : Nat) : Int)] rfl rfl 112 #[.string ⟨#[]⟩, .bool false, .string ⟨#[]⟩, .string ⟨#[]⟩, .int .i64 0, .slice none 0 0, .int .i64 0, .string ⟨#[]⟩, .string ⟨#[]⟩, .int .i64 0, .slice none 0 0, .int .i64 0, .string ⟨#[]⟩, .string ⟨#[]⟩, .int .i64 0, .slice none 0 0, .int .i64 0, .bool false, .int .i64 0] (heap_alloc_new w1 _) (by kernel_rfl) rfl (by simp [Value.oneCell']) ?_
  rw [World.setRow_alloc_new]
  apply wpList_nil
  go_wp2_with fail
  refine calls_gen (P := fun W => MRd W xb rb b D st.name.2 ∧ Bx W w.heap.size 112 [.string ⟨#[]⟩, .bool false, .string ⟨#[]⟩, .string ⟨#[]⟩, .int .i64 0, .slice none 0 0, .int .i64 0, .string ⟨#[]⟩, .string ⟨#[]⟩, .int .i64 0, .slice none 0 0, .int .i64 0, .string ⟨#[]⟩, .string ⟨#[]⟩, .int .i64 0, .slice none 0 0, .int .i64 0, .bool false, .int .i64 0] ∧ Bx W w1.heap.size 112 [.string ⟨st.name.1.1.toArray⟩, .bool false, .string ⟨#[]⟩, .string ⟨#[]⟩, .int .i64 0, .slice none 0 0, .int .i64 0, .string ⟨#[]⟩, .string ⟨#[]⟩, .int .i64 0, .slice none 0 0, .int .i64 0, .string ⟨#[]⟩, .string ⟨#[]⟩, .int .i64 0, .slice none 0 0, .int .i64 0, .bool false, .int .i64 ((st.name.1.2 : Nat) : Int)] ∧ Fx (X2 xb rb) w W) ⟨HM1.out.alloc _, HB1.out.alloc _, Bx.new _ _ _, HF1.out.alloc _⟩ ?_
  rintro W ⟨hM, hB, hC, hF⟩
  refine (mwant_any W hM _).mono ?_
  rintro e w2 ⟨rfl, hM2, hF2⟩
  have HM2 := Lib.hid (show MRd w2 xb rb b D (st.name.2.want [58]) from hM2)
  have hC2 := hC.fx hF2 (HN.out _ (by omega))
  have HC2 := Lib.hid hC2
  have HB2 := Lib.hid (hB.fx hF2 (HN.out _ (Nat.le_refl _)))
  have HF2 := Lib.hid (hF.trans hF2)
  have c0 := HM2.out.c0
  have hx2 := HM2.out.ltx
  have hl2 := HC2.out.lt
  clear hM hB hC hF hM2 hF2 hC2 HM1 HB1 HF1
  go_wp2_with fail
  have HV := Lib.hid (show (st.name.2.want [58]).vals D = ((true, none, none), (st.name.2.want [58]).tl) by simp [St.vals, hi])
  refine (HM2.out.skip_yes ⟨#[98, 111, 111, 108]⟩ hi).mono ?_
  rintro e w3 ⟨rfl, hM3, hF3⟩
  have HM3 := Lib.hid hM3
  have HB3 := Lib.hid (HB2.out.fx hF3 (HN.out _ (Nat.le_refl _)))
  have hC3 := HC2.out.fx hF3 (HN.out _ (by omega))
  have HF3 := Lib.hid (HF2.out.trans hF3)
  have a1 := hC3.cell 1
  simp only [List.getElem?_cons_zero, List.getElem?_cons_succ] at a1
  have z1 := hC3.frozen 1
  have hl3 := hC3.lt
  have hxn : xb ≠ w1.heap.size := by omega
  have c3 := HM3.out.c0
  have hx3 := HM3.out.ltx
  have HC3 := Lib.hid hC3
  clear hM3 hF3 hC3 hi HM2 HB2 HC2 HF2 c0
  go_wp2_with fail
  have et : (st.name.2.want [58]).tl.ptr rb = ((st.name.2.want [58]).vals D).2.ptr rb := by rw [HV.out]
  rw [et]
  refine calls_gen (P := fun W => MRd W xb rb b D ((st.name.2.want [58]).vals D).2 ∧ Bx W w.heap.size 112 [.string ⟨#[]⟩, .bool false, .string ⟨#[]⟩, .string ⟨#[]⟩, .int .i64 0, .slice none 0 0, .int .i64 0, .string ⟨#[]⟩, .string ⟨#[]⟩, .int .i64 0, .slice none 0 0, .int .i64 0, .string ⟨#[]⟩, .string ⟨#[]⟩, .int .i64 0, .slice none 0 0, .int .i64 0, .bool false, .int .i64 0] ∧ Bx W w1.heap.size 112 [.string ⟨st.name.1.1.toArray⟩, .bool ((st.name.2.want [58]).vals D).1.1, .string xv0.o, .string xv0.nm, .int .i64 xv0.n, .slice xv0.A xv0.ll xv0.cap, .int .i64 xv0.p, .string xv0.o, .string xv0.nm, .int .i64 xv0.n, .slice xv0.A xv0.ll xv0.cap, .int .i64 xv0.p, .string xv0.o, .string xv0.nm, .int .i64 xv0.n, .slice xv0.A xv0.ll xv0.cap, .int .i64 xv0.p, .bool false, .int .i64 ((st.name.1.2 : Nat) : Int)] ∧ XO W (w.heap.size + 1) ((st.name.2.want [58]).vals D).1.2.1 xv0.c ∧ XO W (w.heap.size + 1) ((st.name.2.want [58]).vals D).1.2.2 xv0.c ∧ Fx (X2 xb rb) w W) ⟨by rw [HV.out]; exact HM3.out.set HC3.out (by unfold RdT; decide) (by omega) _, HB3.out.far (p := ⟨w1.heap.size, 1, none⟩) (by show w.heap.size ≠ w1.heap.size; omega) _, by rw [HV.out]; exact HC3.out.set 1 _, by rw [HV.out]; rfl, by rw [HV.out]; rfl, HF3.out.setCell (p := ⟨w1.heap.size, 1, none⟩) (.inl (by show _ ≤ w1.heap.size; omega)) _⟩ ?_
  rintro W ⟨hM, hB, hC, hX1, hX2, hF⟩
  clear a1 z1 c3 hx3 et HM3 HB3 HC3 HF3
  have HI := Lib.hid (show ((st.name.2.want [58]).vals D).2.init D = (((((st.name.2.want [58]).vals D).2.tl.expr D).1, true), (((st.name.2.want [58]).vals D).2.tl.expr D).2) by simp [St.init, hi2])
  refine (hM.skip_yes ⟨#[105, 110, 105, 116]⟩ hi2).mono ?_
  rintro e w4 ⟨rfl, hM4, hF4⟩
  have HM4 := Lib.hid hM4
  have HB4 := Lib.hid (hB.fx hF4 (HN.out _ (Nat.le_refl _)))
  have HC4 := Lib.hid (hC.fx hF4 (HN.out _ (by omega)))
  have HX14 := Lib.hid (hX1.fx hF4 (fun k hk => by have := x2_lt hk hx hrb; omega))
  have HX24 := Lib.hid (hX2.fx hF4 (fun k hk => by have := x2_lt hk hx hrb; omega))
  have HF4 := Lib.hid (hF.trans hF4)
  clear hM hB hC hX1 hX2 hF hM4 hF4 hi2
  go_wp2_with fail
  refine (mexpr_any w4 HM4.out).mono ?_
  rintro e w5 ⟨r, rfl, hX, hM5, hF5⟩
  have HM5 := Lib.hid hM5
  have HX35 := Lib.hid (hX.mono (by have := HF4.out.size; omega : w.heap.size + 1 ≤ w4.heap.size + 1))
  have HB5 := Lib.hid (HB4.out.fx hF5 (HN.out _ (Nat.le_refl _)))
  have hC5 := HC4.out.fx hF5 (HN.out _ (by omega))
  have HX15 := Lib.hid (HX14.out.fx hF5 (fun k hk => by have := x2_lt hk hx hrb; omega))
  have HX25 := Lib.hid (HX24.out.fx hF5 (fun k hk => by have := x2_lt hk hx hrb; omega))
  have HF5 := Lib.hid (HF4.out.trans hF5)
  have a0 := hC5.cell 0
  have a1 := hC5.cell 1
  have a2 := hC5.cell 2
  have a3 := hC5.cell 3
  have a4 := hC5.cell 4
  have a5 := hC5.cell 5
  have a6 := hC5.cell 6
  have a7 := hC5.cell 7
  have a8 := hC5.cell 8
  have a9 := hC5.cell 9
  have a10 := hC5.cell 10
  have a11 := hC5.cell 11
  have a12 := hC5.cell 12
  have a13 := hC5.cell 13
  have a14 := hC5.cell 14
  have a15 := hC5.cell 15
  have a16 := hC5.cell 16
  have a17 := hC5.cell 17
  have a18 := hC5.cell 18
  simp only [List.getElem?_cons_zero, List.getElem?_cons_succ] at a0 a1 a2 a3 a4 a5 a6 a7 a8 a9 a10 a11 a12 a13 a14 a15 a16 a17 a18
  have z0 := hC5.frozen 0
  have z1 := hC5.frozen 1
  have z2 := hC5.frozen 2
  have z3 := hC5.frozen 3
  have z4 := hC5.frozen 4
  have z5 := hC5.frozen 5
  have z6 := hC5.frozen 6
  have z7 := hC5.frozen 7
  have z8 := hC5.frozen 8
  have z9 := hC5.frozen 9
  have z10 := hC5.frozen 10
  have z11 := hC5.frozen 11
  have z12 := hC5.frozen 12
  have z13 := hC5.frozen 13
  have z14 := hC5.frozen 14
  have z15 := hC5.frozen 15
  have z16 := hC5.frozen 16
  have z17 := hC5.frozen 17
  have z18 := hC5.frozen 18
  have hl5 := hC5.lt
  have HC5 := Lib.hid hC5
  clear hX hM5 hF5 hC5 HM4 HB4 HC4 HX14 HX24 HF4
  go_wp2_with fail
  have hC5s := HC5.out.setL (i := 12) (us := [.string r.o, .string r.nm, .int .i64 r.n, .slice r.A r.ll r.cap, .int .i64 r.p, .bool true])
  simp only [setL, setLs, List.set_cons_zero, List.set_cons_succ] at hC5s
  have hk5 : Kt (w.heap.size + 1) (fun e => e = 112) w5 (setL w5 w1.heap.size 12 [.string r.o, .string r.nm, .int .i64 r.n, .slice r.A r.ll r.cap, .int .i64 r.p, .bool true]) := Kt.var HC5.out
  simp only [setL] at hk5
  refine calls_gen (P := fun W => MRd W xb rb b D (((st.name.2.want [58]).vals D).2.init D).2 ∧ Bx W w.heap.size 112 [.string ⟨#[]⟩, .bool false, .string ⟨#[]⟩, .string ⟨#[]⟩, .int .i64 0, .slice none 0 0, .int .i64 0, .string ⟨#[]⟩, .string ⟨#[]⟩, .int .i64 0, .slice none 0 0, .int .i64 0, .string ⟨#[]⟩, .string ⟨#[]⟩, .int .i64 0, .slice none 0 0, .int .i64 0, .bool false, .int .i64 0] ∧ Bx W w1.heap.size 112 [.string ⟨st.name.1.1.toArray⟩, .bool ((st.name.2.want [58]).vals D).1.1, .string xv0.o, .string xv0.nm, .int .i64 xv0.n, .slice xv0.A xv0.ll xv0.cap, .int .i64 xv0.p, .string xv0.o, .string xv0.nm, .int .i64 xv0.n, .slice xv0.A xv0.ll xv0.cap, .int .i64 xv0.p, .string r.o, .string r.nm, .int .i64 r.n, .slice r.A r.ll r.cap, .int .i64 r.p, .bool (((st.name.2.want [58]).vals D).2.init D).1.2, .int .i64 ((st.name.1.2 : Nat) : Int)] ∧ XO W (w.heap.size + 1) ((st.name.2.want [58]).vals D).1.2.1 xv0.c ∧ XO W (w.heap.size + 1) ((st.name.2.want [58]).vals D).1.2.2 xv0.c ∧ XO W (w.heap.size + 1) (((st.name.2.want [58]).vals D).2.init D).1.1 r.c ∧ Fx (X2 xb rb) w W) ⟨by rw [HI.out]; have t := MRd.setL (i := 12) (us := [.string r.o, .string r.nm, .int .i64 r.n, .slice r.A r.ll r.cap, .int .i64 r.p, .bool true]) (by unfold RdT; decide) (by omega) HM5.out HC5.out; simp only [setL] at t; exact t, by have t := Bx.farL (q' := w1.heap.size) (i := 12) (us := [.string r.o, .string r.nm, .int .i64 r.n, .slice r.A r.ll r.cap, .int .i64 r.p, .bool true]) (by omega) HB5.out; simp only [setL] at t; exact t, by rw [HI.out]; exact hC5s, HX15.out.keep hk5 (show ¬ (57 = 112) by decide), HX25.out.keep hk5 (show ¬ (57 = 112) by decide), by rw [HI.out]; exact HX35.out.keep hk5 (show ¬ (57 = 112) by decide), by have t := Fx.setL (q := w1.heap.size) (i := 12) (us := [.string r.o, .string r.nm, .int .i64 r.n, .slice r.A r.ll r.cap, .int .i64 r.p, .bool true]) (.inl (by omega)) HF5.out; simp only [setL] at t; exact t⟩ ?_
  rintro W9 ⟨hM, hB, hC, hX1, hX2, hX3, hF⟩
  refine (mwant_any W9 hM _).mono ?_
  rintro e wZ ⟨rfl, hMZ, hFZ⟩
  have HMZ := Lib.hid (show MRd wZ xb rb b D (st.vrbl D).2 from hMZ)
  have hBZ := hB.fx hFZ (HN.out _ (Nat.le_refl _))
  have hCZ := hC.fx hFZ (HN.out _ (by omega))
  have hkZ : Kt (w.heap.size + 1) E0 W9 wZ := Kt.fx hFZ (fun k hk => by have := x2_lt hk hx hrb; omega)
  have HX1 := Lib.hid (hX1.keep hkZ id)
  have HX2 := Lib.hid (hX2.keep hkZ id)
  have HX3 := Lib.hid (hX3.keep hkZ id)
  have HFZ := Lib.hid (hF.trans hFZ)
  have hlZ := hCZ.lt
  have hlB := hBZ.lt
  have HBZ := Lib.hid hBZ
  have HCZ := Lib.hid hCZ
  clear hM hB hC hX1 hX2 hX3 hF hMZ hFZ hBZ hCZ hkZ hC5s hk5 HM5 HB5 HC5 HX15 HX25 HX35 HF5 z0 z1 z2 z3 z4 z5 z6 z7 z8 z9 z10 z11 z12 z13 z14 z15 z16 z17 z18
  go_upto_region 10 with fail
  apply wp_region_lit
  refine wpList_load_row rfl 112 _ rfl w1.heap.size rfl 112 #[.string ⟨st.name.1.1.toArray⟩, .bool ((st.name.2.want [58]).vals D).1.1, .string xv0.o, .string xv0.nm, .int .i64 xv0.n, .slice xv0.A xv0.ll xv0.cap, .int .i64 xv0.p, .string xv0.o, .string xv0.nm, .int .i64 xv0.n, .slice xv0.A xv0.ll xv0.cap, .int .i64 xv0.p, .string r.o, .string r.nm, .int .i64 r.n, .slice r.A r.ll r.cap, .int .i64 r.p, .bool (((st.name.2.want [58]).vals D).2.init D).1.2, .int .i64 ((st.name.1.2 : Nat) : Int)] (0, 0) _ HCZ.out Tryz.underlying112 rfl (by kernel_rfl) ?_
  refine Go.wpList_store_rowTo rfl 112 _ _ rfl rfl w.heap.size #[.string ⟨st.name.1.1.toArray⟩, .bool ((st.name.2.want [58]).vals D).1.1, .string xv0.o, .string xv0.nm, .int .i64 xv0.n, .slice xv0.A xv0.ll xv0.cap, .int .i64 xv0.p, .string xv0.o, .string xv0.nm, .int .i64 xv0.n, .slice xv0.A xv0.ll xv0.cap, .int .i64 xv0.p, .string r.o, .string r.nm, .int .i64 r.n, .slice r.A r.ll r.cap, .int .i64 r.p, .bool (((st.name.2.want [58]).vals D).2.init D).1.2, .int .i64 ((st.name.1.2 : Nat) : Int)] rfl rfl 112 #[.string ⟨#[]⟩, .bool false, .string ⟨#[]⟩, .string ⟨#[]⟩, .int .i64 0, .slice none 0 0, .int .i64 0, .string ⟨#[]⟩, .string ⟨#[]⟩, .int .i64 0, .slice none 0 0, .int .i64 0, .string ⟨#[]⟩, .string ⟨#[]⟩, .int .i64 0, .slice none 0 0, .int .i64 0, .bool false, .int .i64 0] HBZ.out (by kernel_rfl) rfl (by simp [Value.oneCell']) ?_
  apply wpList_nil
  go_wp2
  refine bodyPost_ret (v := .agg #[.string ⟨st.name.1.1.toArray⟩, .bool ((st.name.2.want [58]).vals D).1.1, .string xv0.o, .string xv0.nm, .int .i64 xv0.n, .slice xv0.A xv0.ll xv0.cap, .int .i64 xv0.p, .string xv0.o, .string xv0.nm, .int .i64 xv0.n, .slice xv0.A xv0.ll xv0.cap, .int .i64 xv0.p, .string r.o, .string r.nm, .int .i64 r.n, .slice r.A r.ll r.cap, .int .i64 r.p, .bool (((st.name.2.want [58]).vals D).2.init D).1.2, .int .i64 ((st.name.1.2 : Nat) : Int)]) (results_cell_row rfl _ _ w.heap.size 112 #[.string ⟨st.name.1.1.toArray⟩, .bool ((st.name.2.want [58]).vals D).1.1, .string xv0.o, .string xv0.nm, .int .i64 xv0.n, .slice xv0.A xv0.ll xv0.cap, .int .i64 xv0.p, .string xv0.o, .string xv0.nm, .int .i64 xv0.n, .slice xv0.A xv0.ll xv0.cap, .int .i64 xv0.p, .string r.o, .string r.nm, .int .i64 r.n, .slice r.A r.ll r.cap, .int .i64 r.p, .bool (((st.name.2.want [58]).vals D).2.init D).1.2, .int .i64 ((st.name.1.2 : Nat) : Int)] (0, 0) _ rfl (row_at HBZ.out _) Tryz.underlying112 rfl (by kernel_rfl)) rfl ⟨xv0, xv0, r, rfl, ?_, ?_, ?_, ?_, ?_⟩
  · exact HX1.out.keep (E := E0) (fun k _ _ hk _ _ => row_far (by omega)) id
  · exact HX2.out.keep (E := E0) (fun k _ _ hk _ _ => row_far (by omega)) id
  · exact HX3.out.keep (E := E0) (fun k _ _ hk _ _ => row_far (by omega)) id
  · exact HMZ.out.keep (fun k _ _ hk he => row_far (fun e => by subst e; exact absurd (blk_typ hk HBZ.out) (fun e2 => by subst e2; exact absurd he (by unfold RdT; decide)))) (fun k hk => row_far (by omega)) (row_size _ _ _)
  · exact ⟨HFZ.out.os, HFZ.out.tape, HFZ.out.output, Nat.le_trans HFZ.out.size (row_size _ _ _), fun k hk hn => (row_far (by omega)).trans (HFZ.out.block k hk hn)⟩
end
end
section
open Go.RowKit

section
variable {xb rb b D : Nat} {st : St}
set_option maxHeartbeats 8000000 in
set_option maxRecDepth 100000 in
theorem mvar_2 (w : World) (h : MRd w xb rb b D st) (hi : isT (st.name.2.want [58]).hd wBool = true) (hi2 : isT ((st.name.2.want [58]).vals D).2.hd wInit = false) : Calls Tryz.prog 109 #[.pointer (some ⟨xb, 0, none⟩)] w (VmP xb rb b D (st.vrbl D) w) := by
  have hx := h.ltx
  have hrb := h.hr
  have HN := Lib.hid h.nx
  have hbl := h.ble
  have H := Lib.hid h
  clear h
  go_enter Tryz.func109, Tryz.ntmps109
  go_wp2_with fail
  refine calls_gen (P := fun W => MRd W xb rb b D st ∧ Bx W w.heap.size 112 [.string ⟨#[]⟩, .bool false, .string ⟨#[]⟩, .string ⟨#[]⟩, .int .i64 0, .slice none 0 0, .int .i64 0, .string ⟨#[]⟩, .string ⟨#[]⟩, .int .i64 0, .slice none 0 0, .int .i64 0, .string ⟨#[]⟩, .string ⟨#[]⟩, .int .i64 0, .slice none 0 0, .int .i64 0, .bool false, .int .i64 0] ∧ Fx (X2 xb rb) w W) ⟨H.out.alloc _, Bx.new _ _ _, (Fx.refl _ _).alloc _⟩ ?_
  rintro W ⟨hM, hB, hF⟩
  refine (mname_any W hM).mono ?_
  rintro e w1 ⟨rfl, hM1, hF1⟩
  have HM1 := Lib.hid hM1
  have HB1 := Lib.hid (hB.fx hF1 (HN.out _ (Nat.le_refl _)))
  have HF1 := Lib.hid (hF.trans hF1)
  have hs1 := HB1.out.lt
  clear hM hB hF hM1 hF1 H
  go_upto_region 2 with fail
  apply wp_region_lit
  refine Go.Great.wpList_runTo rfl (some 11) rfl (.string ⟨st.name.1.1.toArray⟩) w1 rfl ?_
  refine Go.Great.wpList_runTo rfl (some 12) rfl (.int .i64 ((st.name.1.2 : Nat) : Int)) w1 rfl ?_
  refine Go.wpList_buildTo rfl 112 _ rfl (some 13) rfl #[.string ⟨st.name.1.1.toArray⟩, .bool false, .string ⟨#[]⟩, .string ⟨#[]⟩, .int .i64 0, .slice none 0 0, .int .i64 0, .string ⟨#[]⟩, .string ⟨#[]⟩, .int .i64 0, .slice none 0 0, .int .i64 0, .string ⟨#[]⟩, .string ⟨#[]⟩, .int .i64 0, .slice none 0 0, .int .i64 0, .bool false, .int .i64 ((st.name.1.2 : Nat) : Int)] (by kernel_rfl) ?_
  refine Go.Great.wpList_runTo rfl (some 5) rfl (.pointer (some ⟨w1.heap.size, 0, none⟩)) (w1.alloc (.cells #[.string ⟨#[]⟩, .bool false, .string ⟨#[]⟩, .string ⟨#[]⟩, .int .i64 0, .slice none 0 0, .int .i64 0, .string ⟨#[]⟩, .string ⟨#[]⟩, .int .i64 0, .slice none 0 0, .int .i64 0, .string ⟨#[]⟩, .string ⟨#[]⟩, .int .i64 0, .slice none 0 0, .int .i64 0, .bool false, .int .i64 0] 112)) (by kernel_rfl) ?_
  refine Go.wpList_store_rowTo rfl 112 _ _ rfl rfl w1.heap.size #[.string ⟨st.name.1.1.toArray⟩, .bool false, .string ⟨#[]⟩, .string ⟨#[]⟩, .int .i64 0, .slice none 0 0, .int .i64 0, .string ⟨#[]⟩, .string ⟨#[]⟩, .int .i64 0, .slice none 0 0, .int .i64 0, .string ⟨#[]⟩, .string ⟨#[]⟩, .int .i64 0, .slice none 0 0, .int .i64 0, .bool false, .int .i64 ((st.name.1.2 : Nat) : Int)] rfl rfl 112 #[.string ⟨#[]⟩, .bool false, .string ⟨#[]⟩, .string ⟨#[]⟩, .int .i64 0, .slice none 0 0, .int .i64 0, .string ⟨#[]⟩, .string ⟨#[]⟩, .int .i64 0, .slice none 0 0, .int .i64 0, .string ⟨#[]⟩, .string ⟨#[]⟩, .int .i64 0, .slice none 0 0, .int .i64 0, .bool false, .int .i64 0] (heap_alloc_new w1 _) (by kernel_rfl) rfl (by simp [Value.oneCell']) ?_
  rw [World.setRow_alloc_new]
  apply wpList_nil
  go_wp2_with fail
  refine calls_gen (P := fun W => MRd W xb rb b D st.name.2 ∧ Bx W w.heap.size 112 [.string ⟨#[]⟩, .bool false, .string ⟨#[]⟩, .string ⟨#[]⟩, .int .i64 0, .slice none 0 0, .int .i64 0, .string ⟨#[]⟩, .string ⟨#[]⟩, .int .i64 0, .slice none 0 0, .int .i64 0, .string ⟨#[]⟩, .string ⟨#[]⟩, .int .i64 0, .slice none 0 0, .int .i64 0, .bool false, .int .i64 0] ∧ Bx W w1.heap.size 112 [.string ⟨st.name.1.1.toArray⟩, .bool false, .string ⟨#[]⟩, .string ⟨#[]⟩, .int .i64 0, .slice none 0 0, .int .i64 0, .string ⟨#[]⟩, .string ⟨#[]⟩, .int .i64 0, .slice none 0 0, .int .i64 0, .string ⟨#[]⟩, .string ⟨#[]⟩, .int .i64 0, .slice none 0 0, .int .i64 0, .bool false, .int .i64 ((st.name.1.2 : Nat) : Int)] ∧ Fx (X2 xb rb) w W) ⟨HM1.out.alloc _, HB1.out.alloc _, Bx.new _ _ _, HF1.out.alloc _⟩ ?_
  rintro W ⟨hM, hB, hC, hF⟩
  refine (mwant_any W hM _).mono ?_
  rintro e w2 ⟨rfl, hM2, hF2⟩
  have HM2 := Lib.hid (show MRd w2 xb rb b D (st.name.2.want [58]) from hM2)
  have hC2 := hC.fx hF2 (HN.out _ (by omega))
  have HC2 := Lib.hid hC2
  have HB2 := Lib.hid (hB.fx hF2 (HN.out _ (Nat.le_refl _)))
  have HF2 := Lib.hid (hF.trans hF2)
  have c0 := HM2.out.c0
  have hx2 := HM2.out.ltx
  have hl2 := HC2.out.lt
  clear hM hB hC hF hM2 hF2 hC2 HM1 HB1 HF1
  go_wp2_with fail
  have HV := Lib.hid (show (st.name.2.want [58]).vals D = ((true, none, none), (st.name.2.want [58]).tl) by simp [St.vals, hi])
  refine (HM2.out.skip_yes ⟨#[98, 111, 111, 108]⟩ hi).mono ?_
  rintro e w3 ⟨rfl, hM3, hF3⟩
  have HM3 := Lib.hid hM3
  have HB3 := Lib.hid (HB2.out.fx hF3 (HN.out _ (Nat.le_refl _)))
  have hC3 := HC2.out.fx hF3 (HN.out _ (by omega))
  have HF3 := Lib.hid (HF2.out.trans hF3)
  have a1 := hC3.cell 1
  simp only [List.getElem?_cons_zero, List.getElem?_cons_succ] at a1
  have z1 := hC3.frozen 1
  have hl3 := hC3.lt
  have hxn : xb ≠ w1.heap.size := by omega
  have c3 := HM3.out.c0
  have hx3 := HM3.out.ltx
  have HC3 := Lib.hid hC3
  clear hM3 hF3 hC3 hi HM2 HB2 HC2 HF2 c0
  go_wp2_with fail
  have et : (st.name.2.want [58]).tl.ptr rb = ((st.name.2.want [58]).vals D).2.ptr rb := by rw [HV.out]
  rw [et]
  refine calls_gen (P := fun W => MRd W xb rb b D ((st.name.2.want [58]).vals D).2 ∧ Bx W w.heap.size 112 [.string ⟨#[]⟩, .bool false, .string ⟨#[]⟩, .string ⟨#[]⟩, .int .i64 0, .slice none 0 0, .int .i64 0, .string ⟨#[]⟩, .string ⟨#[]⟩, .int .i64 0, .slice none 0 0, .int .i64 0, .string ⟨#[]⟩, .string ⟨#[]⟩, .int .i64 0, .slice none 0 0, .int .i64 0, .bool false, .int .i64 0] ∧ Bx W w1.heap.size 112 [.string ⟨st.name.1.1.toArray⟩, .bool ((st.name.2.want [58]).vals D).1.1, .string xv0.o, .string xv0.nm, .int .i64 xv0.n, .slice xv0.A xv0.ll xv0.cap, .int .i64 xv0.p, .string xv0.o, .string xv0.nm, .int .i64 xv0.n, .slice xv0.A xv0.ll xv0.cap, .int .i64 xv0.p, .string xv0.o, .string xv0.nm, .int .i64 xv0.n, .slice xv0.A xv0.ll xv0.cap, .int .i64 xv0.p, .bool false, .int .i64 ((st.name.1.2 : Nat) : Int)] ∧ XO W (w.heap.size + 1) ((st.name.2.want [58]).vals D).1.2.1 xv0.c ∧ XO W (w.heap.size + 1) ((st.name.2.want [58]).vals D).1.2.2 xv0.c ∧ Fx (X2 xb rb) w W) ⟨by rw [HV.out]; exact HM3.out.set HC3.out (by unfold RdT; decide) (by omega) _, HB3.out.far (p := ⟨w1.heap.size, 1, none⟩) (by show w.heap.size ≠ w1.heap.size; omega) _, by rw [HV.out]; exact HC3.out.set 1 _, by rw [HV.out]; rfl, by rw [HV.out]; rfl, HF3.out.setCell (p := ⟨w1.heap.size, 1, none⟩) (.inl (by show _ ≤ w1.heap.size; omega)) _⟩ ?_
  rintro W ⟨hM, hB, hC, hX1, hX2, hF⟩
  clear a1 z1 c3 hx3 et HM3 HB3 HC3 HF3
  have HI := Lib.hid (show ((st.name.2.want [58]).vals D).2.init D = ((none, false), ((st.name.2.want [58]).vals D).2) by simp [St.init, hi2])
  refine (hM.skip_no ⟨#[105, 110, 105, 116]⟩ hi2).mono ?_
  rintro e w4 ⟨rfl, hb4⟩
  have HM4 := Lib.hid (hM.below hb4)
  have HB4 := Lib.hid (hB.below hb4)
  have HC4 := Lib.hid (hC.below hb4)
  have HX14 := Lib.hid (hX1.below hb4)
  have HX24 := Lib.hid (hX2.below hb4)
  have HF4 := Lib.hid (hF.on hb4)
  clear hM hB hC hX1 hX2 hF hb4 hi2
  go_wp2_with fail
  refine calls_gen (P := fun W => MRd W xb rb b D (((st.name.2.want [58]).vals D).2.init D).2 ∧ Bx W w.heap.size 112 [.string ⟨#[]⟩, .bool false, .string ⟨#[]⟩, .string ⟨#[]⟩, .int .i64 0, .slice none 0 0, .int .i64 0, .string ⟨#[]⟩, .string ⟨#[]⟩, .int .i64 0, .slice none 0 0, .int .i64 0, .string ⟨#[]⟩, .string ⟨#[]⟩, .int .i64 0, .slice none 0 0, .int .i64 0, .bool false, .int .i64 0] ∧ Bx W w1.heap.size 112 [.string ⟨st.name.1.1.toArray⟩, .bool ((st.name.2.want [58]).vals D).1.1, .string xv0.o, .string xv0.nm, .int .i64 xv0.n, .slice xv0.A xv0.ll xv0.cap, .int .i64 xv0.p, .string xv0.o, .string xv0.nm, .int .i64 xv0.n, .slice xv0.A xv0.ll xv0.cap, .int .i64 xv0.p, .string xv0.o, .string xv0.nm, .int .i64 xv0.n, .slice xv0.A xv0.ll xv0.cap, .int .i64 xv0.p, .bool (((st.name.2.want [58]).vals D).2.init D).1.2, .int .i64 ((st.name.1.2 : Nat) : Int)] ∧ XO W (w.heap.size + 1) ((st.name.2.want [58]).vals D).1.2.1 xv0.c ∧ XO W (w.heap.size + 1) ((st.name.2.want [58]).vals D).1.2.2 xv0.c ∧ XO W (w.heap.size + 1) (((st.name.2.want [58]).vals D).2.init D).1.1 xv0.c ∧ Fx (X2 xb rb) w W) ⟨by rw [HI.out]; exact HM4.out, HB4.out, by rw [HI.out]; exact HC4.out, HX14.out, HX24.out, by rw [HI.out]; rfl, HF4.out⟩ ?_
  rintro W9 ⟨hM, hB, hC, hX1, hX2, hX3, hF⟩
  refine (mwant_any W9 hM _).mono ?_
  rintro e wZ ⟨rfl, hMZ, hFZ⟩
  have HMZ := Lib.hid (show MRd wZ xb rb b D (st.vrbl D).2 from hMZ)
  have hBZ := hB.fx hFZ (HN.out _ (Nat.le_refl _))
  have hCZ := hC.fx hFZ (HN.out _ (by omega))
  have hkZ : Kt (w.heap.size + 1) E0 W9 wZ := Kt.fx hFZ (fun k hk => by have := x2_lt hk hx hrb; omega)
  have HX1 := Lib.hid (hX1.keep hkZ id)
  have HX2 := Lib.hid (hX2.keep hkZ id)
  have HX3 := Lib.hid (hX3.keep hkZ id)
  have HFZ := Lib.hid (hF.trans hFZ)
  have hlZ := hCZ.lt
  have hlB := hBZ.lt
  have HBZ := Lib.hid hBZ
  have HCZ := Lib.hid hCZ
  clear hM hB hC hX1 hX2 hX3 hF hMZ hFZ hBZ hCZ hkZ HM4 HB4 HC4 HX14 HX24 HF4
  go_upto_region 10 with fail
  apply wp_region_lit
  refine wpList_load_row rfl 112 _ rfl w1.heap.size rfl 112 #[.string ⟨st.name.1.1.toArray⟩, .bool ((st.name.2.want [58]).vals D).1.1, .string xv0.o, .string xv0.nm, .int .i64 xv0.n, .slice xv0.A xv0.ll xv0.cap, .int .i64 xv0.p, .string xv0.o, .string xv0.nm, .int .i64 xv0.n, .slice xv0.A xv0.ll xv0.cap, .int .i64 xv0.p, .string xv0.o, .string xv0.nm, .int .i64 xv0.n, .slice xv0.A xv0.ll xv0.cap, .int .i64 xv0.p, .bool (((st.name.2.want [58]).vals D).2.init D).1.2, .int .i64 ((st.name.1.2 : Nat) : Int)] (0, 0) _ HCZ.out Tryz.underlying112 rfl (by kernel_rfl) ?_
  refine Go.wpList_store_rowTo rfl 112 _ _ rfl rfl w.heap.size #[.string ⟨st.name.1.1.toArray⟩, .bool ((st.name.2.want [58]).vals D).1.1, .string xv0.o, .string xv0.nm, .int .i64 xv0.n, .slice xv0.A xv0.ll xv0.cap, .int .i64 xv0.p, .string xv0.o, .string xv0.nm, .int .i64 xv0.n, .slice xv0.A xv0.ll xv0.cap, .int .i64 xv0.p, .string xv0.o, .string xv0.nm, .int .i64 xv0.n, .slice xv0.A xv0.ll xv0.cap, .int .i64 xv0.p, .bool (((st.name.2.want [58]).vals D).2.init D).1.2, .int .i64 ((st.name.1.2 : Nat) : Int)] rfl rfl 112 #[.string ⟨#[]⟩, .bool false, .string ⟨#[]⟩, .string ⟨#[]⟩, .int .i64 0, .slice none 0 0, .int .i64 0, .string ⟨#[]⟩, .string ⟨#[]⟩, .int .i64 0, .slice none 0 0, .int .i64 0, .string ⟨#[]⟩, .string ⟨#[]⟩, .int .i64 0, .slice none 0 0, .int .i64 0, .bool false, .int .i64 0] HBZ.out (by kernel_rfl) rfl (by simp [Value.oneCell']) ?_
  apply wpList_nil
  go_wp2
  refine bodyPost_ret (v := .agg #[.string ⟨st.name.1.1.toArray⟩, .bool ((st.name.2.want [58]).vals D).1.1, .string xv0.o, .string xv0.nm, .int .i64 xv0.n, .slice xv0.A xv0.ll xv0.cap, .int .i64 xv0.p, .string xv0.o, .string xv0.nm, .int .i64 xv0.n, .slice xv0.A xv0.ll xv0.cap, .int .i64 xv0.p, .string xv0.o, .string xv0.nm, .int .i64 xv0.n, .slice xv0.A xv0.ll xv0.cap, .int .i64 xv0.p, .bool (((st.name.2.want [58]).vals D).2.init D).1.2, .int .i64 ((st.name.1.2 : Nat) : Int)]) (results_cell_row rfl _ _ w.heap.size 112 #[.string ⟨st.name.1.1.toArray⟩, .bool ((st.name.2.want [58]).vals D).1.1, .string xv0.o, .string xv0.nm, .int .i64 xv0.n, .slice xv0.A xv0.ll xv0.cap, .int .i64 xv0.p, .string xv0.o, .string xv0.nm, .int .i64 xv0.n, .slice xv0.A xv0.ll xv0.cap, .int .i64 xv0.p, .string xv0.o, .string xv0.nm, .int .i64 xv0.n, .slice xv0.A xv0.ll xv0.cap, .int .i64 xv0.p, .bool (((st.name.2.want [58]).vals D).2.init D).1.2, .int .i64 ((st.name.1.2 : Nat) : Int)] (0, 0) _ rfl (row_at HBZ.out _) Tryz.underlying112 rfl (by kernel_rfl)) rfl ⟨xv0, xv0, xv0, rfl, ?_, ?_, ?_, ?_, ?_⟩
  · exact HX1.out.keep (E := E0) (fun k _ _ hk _ _ => row_far (by omega)) id
  · exact HX2.out.keep (E := E0) (fun k _ _ hk _ _ => row_far (by omega)) id
  · exact HX3.out.keep (E := E0) (fun k _ _ hk _ _ => row_far (by omega)) id
  · exact HMZ.out.keep (fun k _ _ hk he => row_far (fun e => by subst e; exact absurd (blk_typ hk HBZ.out) (fun e2 => by subst e2; exact absurd he (by unfold RdT; decide)))) (fun k hk => row_far (by omega)) (row_size _ _ _)
  · exact ⟨HFZ.out.os, HFZ.out.tape, HFZ.out.output, Nat.le_trans HFZ.out.size (row_size _ _ _), fun k hk hn => (row_far (by omega)).trans (HFZ.out.block k hk hn)⟩
end
end
section
open Go.RowKit

section
variable {xb rb b D : Nat} {st : St}
set_option maxHeartbeats 8000000 in
set_option maxRecDepth 100000 in
theorem mvar_3 (w : World) (h : MRd w xb rb b D st) (hi : isT (st.name.2.want [58]).hd wBool = false) (hi2 : isT ((st.name.2.want [58]).vals D).2.hd wInit = true) : Calls Tryz.prog 109 #[.pointer (some ⟨xb, 0, none⟩)] w (VmP xb rb b D (st.vrbl D) w) := by
  have hx := h.ltx
  have hrb := h.hr
  have HN := Lib.hid h.nx
  have hbl := h.ble
  have H := Lib.hid h
  clear h
  go_enter Tryz.func109, Tryz.ntmps109
  go_wp2_with fail
  refine calls_gen (P := fun W => MRd W xb rb b D st ∧ Bx W w.heap.size 112 [.string ⟨#[]⟩, .bool false, .string ⟨#[]⟩, .string ⟨#[]⟩, .int .i64 0, .slice none 0 0, .int .i64 0, .string ⟨#[]⟩, .string ⟨#[]⟩, .int .i64 0, .slice none 0 0, .int .i64 0, .string ⟨#[]⟩, .string ⟨#[]⟩, .int .i64 0, .slice none 0 0, .int .i64 0, .bool false, .int .i64 0] ∧ Fx (X2 xb rb) w W) ⟨H.out.alloc _, Bx.new _ _ _, (Fx.refl _ _).alloc _⟩ ?_
  rintro W ⟨hM, hB, hF⟩
  refine (mname_any W hM).mono ?_
  rintro e w1 ⟨rfl, hM1, hF1⟩
  have HM1 := Lib.hid hM1
  have HB1 := Lib.hid (hB.fx hF1 (HN.out _ (Nat.le_refl _)))
  have HF1 := Lib.hid (hF.trans hF1)
  have hs1 := HB1.out.lt
  clear hM hB hF hM1 hF1 H
  go_upto_region 2 with fail
  apply wp_region_lit
  refine Go.Great.wpList_runTo rfl (some 11) rfl (.string ⟨st.name.1.1.toArray⟩) w1 rfl ?_
  refine Go.Great.wpList_runTo rfl (some 12) rfl (.int .i64 ((st.name.1.2 : Nat) : Int)) w1 rfl ?_
  refine Go.wpList_buildTo rfl 112 _ rfl (some 13) rfl #[.string ⟨st.name.1.1.toArray⟩, .bool false, .string ⟨#[]⟩, .string ⟨#[]⟩, .int .i64 0, .slice none 0 0, .int .i64 0, .string ⟨#[]⟩, .string ⟨#[]⟩, .int .i64 0, .slice none 0 0, .int .i64 0, .string ⟨#[]⟩, .string ⟨#[]⟩, .int .i64 0, .slice none 0 0, .int .i64 0, .bool false, .int .i64 ((st.name.1.2 : Nat) : Int)] (by kernel_rfl) ?_
  refine Go.Great.wpList_runTo rfl (some 5) rfl (.pointer (some ⟨w1.heap.size, 0, none⟩)) (w1.alloc (.cells #[.string ⟨#[]⟩, .bool false, .string ⟨#[]⟩, .string ⟨#[]⟩, .int .i64 0, .slice none 0 0, .int .i64 0, .string ⟨#[]⟩, .string ⟨#[]⟩, .int .i64 0, .slice none 0 0, .int .i64 0, .string ⟨#[]⟩, .string ⟨#[]⟩, .int .i64 0, .slice none 0 0, .int .i64 0, .bool false, .int .i64 0] 112)) (by kernel_rfl) ?_
  refine Go.wpList_store_rowTo rfl 112 _ _ rfl rfl w1.heap.size #[.string ⟨st.name.1.1.toArray⟩, .bool false, .string ⟨#[]⟩, .string ⟨#[]⟩, .int .i64 0, .slice none 0 0, .int .i64 0, .string ⟨#[]⟩, .string ⟨#[]⟩, .int .i64 0, .slice none 0 0, .int .i64 0, .string ⟨#[]⟩, .string ⟨#[]⟩, .int .i64 0, .slice none 0 0, .int .i64 0, .bool false, .int .i64 ((st.name.1.2 : Nat) : Int)] rfl rfl 112 #[.string ⟨#[]⟩, .bool false, .string ⟨#[]⟩, .string ⟨#[]⟩, .int .i64 0, .slice none 0 0, .int .i64 0, .string ⟨#[]⟩, .string ⟨#[]⟩, .int .i64 0, .slice none 0 0, .int .i64 0, .string ⟨#[]⟩, .string ⟨#[]⟩, .int .i64 0, .slice none 0 0, .int .i64 0, .bool false, .int .i64 0] (heap_alloc_new w1 _) (by kernel_rfl) rfl (by simp [Value.oneCell']) ?_
  rw [World.setRow_alloc_new]
  apply wpList_nil
  go_wp2_with fail
  refine calls_gen (P := fun W => MRd W xb rb b D st.name.2 ∧ Bx W w.heap.size 112 [.string ⟨#[]⟩, .bool false, .string ⟨#[]⟩, .string ⟨#[]⟩, .int .i64 0, .slice none 0 0, .int .i64 0, .string ⟨#[]⟩, .string ⟨#[]⟩, .int .i64 0, .slice none 0 0, .int .i64 0, .string ⟨#[]⟩, .string ⟨#[]⟩, .int .i64 0, .slice none 0 0, .int .i64 0, .bool false, .int .i64 0] ∧ Bx W w1.heap.size 112 [.string ⟨st.name.1.1.toArray⟩, .bool false, .string ⟨#[]⟩, .string ⟨#[]⟩, .int .i64 0, .slice none 0 0, .int .i64 0, .string ⟨#[]⟩, .string ⟨#[]⟩, .int .i64 0, .slice none 0 0, .int .i64 0, .string ⟨#[]⟩, .string ⟨#[]⟩, .int .i64 0, .slice none 0 0, .int .i64 0, .bool false, .int .i64 ((st.name.1.2 : Nat) : Int)] ∧ Fx (X2 xb rb) w W) ⟨HM1.out.alloc _, HB1.out.alloc _, Bx.new _ _ _, HF1.out.alloc _⟩ ?_
  rintro W ⟨hM, hB, hC, hF⟩
  refine (mwant_any W hM _).mono ?_
  rintro e w2 ⟨rfl, hM2, hF2⟩
  have HM2 := Lib.hid (show MRd w2 xb rb b D (st.name.2.want [58]) from hM2)
  have hC2 := hC.fx hF2 (HN.out _ (by omega))
  have HC2 := Lib.hid hC2
  have HB2 := Lib.hid (hB.fx hF2 (HN.out _ (Nat.le_refl _)))
  have HF2 := Lib.hid (hF.trans hF2)
  have c0 := HM2.out.c0
  have hx2 := HM2.out.ltx
  have hl2 := HC2.out.lt
  clear hM hB hC hF hM2 hF2 hC2 HM1 HB1 HF1
  go_wp2_with fail
  have HV := Lib.hid (show (st.name.2.want [58]).vals D = ((false, ((st.name.2.want [58]).bnds D).1), ((st.name.2.want [58]).bnds D).2) by simp [St.vals, hi])
  refine (HM2.out.skip_no ⟨#[98, 111, 111, 108]⟩ hi).mono ?_
  rintro e w3 ⟨rfl, hb3⟩
  have HM3 := Lib.hid (HM2.out.below hb3)
  have HB3 := Lib.hid (HB2.out.below hb3)
  have HC3 := Lib.hid (HC2.out.below hb3)
  have HF3 := Lib.hid (HF2.out.on hb3)
  clear hb3 hi HM2 HB2 HC2 HF2 c0
  go_wp2_with fail
  refine (mbounds_any w3 HM3.out).mono ?_
  rintro e w3' ⟨p, q, rfl, hX1, hX2, hM3', hF3'⟩
  have HM3' := Lib.hid hM3'
  have HX1' := Lib.hid (hX1.mono (by have := HF3.out.size; omega : w.heap.size + 1 ≤ w3.heap.size + 1))
  have HX2' := Lib.hid (hX2.mono (by have := HF3.out.size; omega : w.heap.size + 1 ≤ w3.heap.size + 1))
  have HB3' := Lib.hid (HB3.out.fx hF3' (HN.out _ (Nat.le_refl _)))
  have hC3' := HC3.out.fx hF3' (HN.out _ (by omega))
  have HF3' := Lib.hid (HF3.out.trans hF3')
  have a0 := hC3'.cell 0
  have a1 := hC3'.cell 1
  have a2 := hC3'.cell 2
  have a3 := hC3'.cell 3
  have a4 := hC3'.cell 4
  have a5 := hC3'.cell 5
  have a6 := hC3'.cell 6
  have a7 := hC3'.cell 7
  have a8 := hC3'.cell 8
  have a9 := hC3'.cell 9
  have a10 := hC3'.cell 10
  have a11 := hC3'.cell 11
  have a12 := hC3'.cell 12
  have a13 := hC3'.cell 13
  have a14 := hC3'.cell 14
  have a15 := hC3'.cell 15
  have a16 := hC3'.cell 16
  have a17 := hC3'.cell 17
  have a18 := hC3'.cell 18
  simp only [List.getElem?_cons_zero, List.getElem?_cons_succ] at a0 a1 a2 a3 a4 a5 a6 a7 a8 a9 a10 a11 a12 a13 a14 a15 a16 a17 a18
  have z0 := hC3'.frozen 0
  have z1 := hC3'.frozen 1
  have z2 := hC3'.frozen 2
  have z3 := hC3'.frozen 3
  have z4 := hC3'.frozen 4
  have z5 := hC3'.frozen 5
  have z6 := hC3'.frozen 6
  have z7 := hC3'.frozen 7
  have z8 := hC3'.frozen 8
  have z9 := hC3'.frozen 9
  have z10 := hC3'.frozen 10
  have z11 := hC3'.frozen 11
  have z12 := hC3'.frozen 12
  have z13 := hC3'.frozen 13
  have z14 := hC3'.frozen 14
  have z15 := hC3'.frozen 15
  have z16 := hC3'.frozen 16
  have z17 := hC3'.frozen 17
  have z18 := hC3'.frozen 18
  have hl3 := hC3'.lt
  have hxn : xb ≠ w1.heap.size := by omega
  have c3 := HM3'.out.c0
  have hx3 := HM3'.out.ltx
  have HC3' := Lib.hid hC3'
  clear hM3' hF3' hC3' hX1 hX2 HM3 HB3 HC3 HF3
  go_wp2_with fail
  have et : ((st.name.2.want [58]).bnds D).2.ptr rb = ((st.name.2.want [58]).vals D).2.ptr rb := by rw [HV.out]
  rw [et]
  have hCs := HC3'.out.setL (i := 2) (us := [.string p.o, .string p.nm, .int .i64 p.n, .slice p.A p.ll p.cap, .int .i64 p.p, .string q.o, .string q.nm, .int .i64 q.n, .slice q.A q.ll q.cap, .int .i64 q.p])
  simp only [setL, setLs, List.set_cons_zero, List.set_cons_succ] at hCs
  have hk3 : Kt (w.heap.size + 1) (fun e => e = 112) w3' (setL w3' w1.heap.size 2 [.string p.o, .string p.nm, .int .i64 p.n, .slice p.A p.ll p.cap, .int .i64 p.p, .string q.o, .string q.nm, .int .i64 q.n, .slice q.A q.ll q.cap, .int .i64 q.p]) := Kt.var HC3'.out
  simp only [setL] at hk3
  refine calls_gen (P := fun W => MRd W xb rb b D ((st.name.2.want [58]).vals D).2 ∧ Bx W w.heap.size 112 [.string ⟨#[]⟩, .bool false, .string ⟨#[]⟩, .string ⟨#[]⟩, .int .i64 0, .slice none 0 0, .int .i64 0, .string ⟨#[]⟩, .string ⟨#[]⟩, .int .i64 0, .slice none 0 0, .int .i64 0, .string ⟨#[]⟩, .string ⟨#[]⟩, .int .i64 0, .slice none 0 0, .int .i64 0, .bool false, .int .i64 0] ∧ Bx W w1.heap.size 112 [.string ⟨st.name.1.1.toArray⟩, .bool ((st.name.2.want [58]).vals D).1.1, .string p.o, .string p.nm, .int .i64 p.n, .slice p.A p.ll p.cap, .int .i64 p.p, .string q.o, .string q.nm, .int .i64 q.n, .slice q.A q.ll q.cap, .int .i64 q.p, .string xv0.o, .string xv0.nm, .int .i64 xv0.n, .slice xv0.A xv0.ll xv0.cap, .int .i64 xv0.p, .bool false, .int .i64 ((st.name.1.2 : Nat) : Int)] ∧ XO W (w.heap.size + 1) ((st.name.2.want [58]).vals D).1.2.1 p.c ∧ XO W (w.heap.size + 1) ((st.name.2.want [58]).vals D).1.2.2 q.c ∧ Fx (X2 xb rb) w W) ⟨by rw [HV.out]; have t := MRd.setL (i := 2) (us := [.string p.o, .string p.nm, .int .i64 p.n, .slice p.A p.ll p.cap, .int .i64 p.p, .string q.o, .string q.nm, .int .i64 q.n, .slice q.A q.ll q.cap, .int .i64 q.p]) (by unfold RdT; decide) (by omega) HM3'.out HC3'.out; simp only [setL] at t; exact t, by have t := Bx.farL (q' := w1.heap.size) (i := 2) (us := [.string p.o, .string p.nm, .int .i64 p.n, .slice p.A p.ll p.cap, .int .i64 p.p, .string q.o, .string q.nm, .int .i64 q.n, .slice q.A q.ll q.cap, .int .i64 q.p]) (by omega) HB3'.out; simp only [setL] at t; exact t, by rw [HV.out]; exact hCs, by rw [HV.out]; exact HX1'.out.keep hk3 (show ¬ (57 = 112) by decide), by rw [HV.out]; exact HX2'.out.keep hk3 (show ¬ (57 = 112) by decide), by have t := Fx.setL (q := w1.heap.size) (i := 2) (us := [.string p.o, .string p.nm, .int .i64 p.n, .slice p.A p.ll p.cap, .int .i64 p.p, .string q.o, .string q.nm, .int .i64 q.n, .slice q.A q.ll q.cap, .int .i64 q.p]) (.inl (by omega)) HF3'.out; simp only [setL] at t; exact t⟩ ?_
  rintro W ⟨hM, hB, hC, hX1, hX2, hF⟩
  clear c3 hx3 et hCs hk3 HM3' HX1' HX2' HB3' HC3' HF3' a0 z0 a1 z1 a2 z2 a3 z3 a4 z4 a5 z5 a6 z6 a7 z7 a8 z8 a9 z9 a10 z10 a11 z11 a12 z12 a13 z13 a14 z14 a15 z15 a16 z16 a17 z17 a18 z18
  have HI := Lib.hid (show ((st.name.2.want [58]).vals D).2.init D = (((((st.name.2.want [58]).vals D).2.tl.expr D).1, true), (((st.name.2.want [58]).vals D).2.tl.expr D).2) by simp [St.init, hi2])
  refine (hM.skip_yes ⟨#[105, 110, 105, 116]⟩ hi2).mono ?_
  rintro e w4 ⟨rfl, hM4, hF4⟩
  have HM4 := Lib.hid hM4
  have HB4 := Lib.hid (hB.fx hF4 (HN.out _ (Nat.le_refl _)))
  have HC4 := Lib.hid (hC.fx hF4 (HN.out _ (by omega)))
  have HX14 := Lib.hid (hX1.fx hF4 (fun k hk => by have := x2_lt hk hx hrb; omega))
  have HX24 := Lib.hid (hX2.fx hF4 (fun k hk => by have := x2_lt hk hx hrb; omega))
  have HF4 := Lib.hid (hF.trans hF4)
  clear hM hB hC hX1 hX2 hF hM4 hF4 hi2
  go_wp2_with fail
  refine (mexpr_any w4 HM4.out).mono ?_
  rintro e w5 ⟨r, rfl, hX, hM5, hF5⟩
  have HM5 := Lib.hid hM5
  have HX35 := Lib.hid (hX.mono (by have := HF4.out.size; omega : w.heap.size + 1 ≤ w4.heap.size + 1))
  have HB5 := Lib.hid (HB4.out.fx hF5 (HN.out _ (Nat.le_refl _)))
  have hC5 := HC4.out.fx hF5 (HN.out _ (by omega))
  have HX15 := Lib.hid (HX14.out.fx hF5 (fun k hk => by have := x2_lt hk hx hrb; omega))
  have HX25 := Lib.hid (HX24.out.fx hF5 (fun k hk => by have := x2_lt hk hx hrb; omega))
  have HF5 := Lib.hid (HF4.out.trans hF5)
  have a0 := hC5.cell 0
  have a1 := hC5.cell 1
  have a2 := hC5.cell 2
  have a3 := hC5.cell 3
  have a4 := hC5.cell 4
  have a5 := hC5.cell 5
  have a6 := hC5.cell 6
  have a7 := hC5.cell 7
  have a8 := hC5.cell 8
  have a9 := hC5.cell 9
  have a10 := hC5.cell 10
  have a11 := hC5.cell 11
  have a12 := hC5.cell 12
  have a13 := hC5.cell 13
  have a14 := hC5.cell 14
  have a15 := hC5.cell 15
  have a16 := hC5.cell 16
  have a17 := hC5.cell 17
  have a18 := hC5.cell 18
  simp only [List.getElem?_cons_zero, List.getElem?_cons_succ] at a0 a1 a2 a3 a4 a5 a6 a7 a8 a9 a10 a11 a12 a13 a14 a15 a16 a17 a18
  have z0 := hC5.frozen 0
  have z1 := hC5.frozen 1
  have z2 := hC5.frozen 2
  have z3 := hC5.frozen 3
  have z4 := hC5.frozen 4
  have z5 := hC5.frozen 5
  have z6 := hC5.frozen 6
  have z7 := hC5.frozen 7
  have z8 := hC5.frozen 8
  have z9 := hC5.frozen 9
  have z10 := hC5.frozen 10
  have z11 := hC5.frozen 11
  have z12 := hC5.frozen 12
  have z13 := hC5.frozen 13
  have z14 := hC5.frozen 14
  have z15 := hC5.frozen 15
  have z16 := hC5.frozen 16
  have z17 := hC5.frozen 17
  have z18 := hC5.frozen 18
  have hl5 := hC5.lt
  have HC5 := Lib.hid hC5
  clear hX hM5 hF5 hC5 HM4 HB4 HC4 HX14 HX24 HF4
  go_wp2_with fail
  have hC5s := HC5.out.setL (i := 12) (us := [.string r.o, .string r.nm, .int .i64 r.n, .slice r.A r.ll r.cap, .int .i64 r.p, .bool true])
  simp only [setL, setLs, List.set_cons_zero, List.set_cons_succ] at hC5s
  have hk5 : Kt (w.heap.size + 1) (fun e => e = 112) w5 (setL w5 w1.heap.size 12 [.string r.o, .string r.nm, .int .i64 r.n, .slice r.A r.ll r.cap, .int .i64 r.p, .bool true]) := Kt.var HC5.out
  simp only [setL] at hk5
  refine calls_gen (P := fun W => MRd W xb rb b D (((st.name.2.want [58]).vals D).2.init D).2 ∧ Bx W w.heap.size 112 [.string ⟨#[]⟩, .bool false, .string ⟨#[]⟩, .string ⟨#[]⟩, .int .i64 0, .slice none 0 0, .int .i64 0, .string ⟨#[]⟩, .string ⟨#[]⟩, .int .i64 0, .slice none 0 0, .int .i64 0, .string ⟨#[]⟩, .string ⟨#[]⟩, .int .i64 0, .slice none 0 0, .int .i64 0, .bool false, .int .i64 0] ∧ Bx W w1.heap.size 112 [.string ⟨st.name.1.1.toArray⟩, .bool ((st.name.2.want [58]).vals D).1.1, .string p.o, .string p.nm, .int .i64 p.n, .slice p.A p.ll p.cap, .int .i64 p.p, .string q.o, .string q.nm, .int .i64 q.n, .slice q.A q.ll q.cap, .int .i64 q.p, .string r.o, .string r.nm, .int .i64 r.n, .slice r.A r.ll r.cap, .int .i64 r.p, .bool (((st.name.2.want [58]).vals D).2.init D).1.2, .int .i64 ((st.name.1.2 : Nat) : Int)] ∧ XO W (w.heap.size + 1) ((st.name.2.want [58]).vals D).1.2.1 p.c ∧ XO W (w.heap.size + 1) ((st.name.2.want [58]).vals D).1.2.2 q.c ∧ XO W (w.heap.size + 1) (((st.name.2.want [58]).vals D).2.init D).1.1 r.c ∧ Fx (X2 xb rb) w W) ⟨by rw [HI.out]; have t := MRd.setL (i := 12) (us := [.string r.o, .string r.nm, .int .i64 r.n, .slice r.A r.ll r.cap, .int .i64 r.p, .bool true]) (by unfold RdT; decide) (by omega) HM5.out HC5.out; simp only [setL] at t; exact t, by have t := Bx.farL (q' := w1.heap.size) (i := 12) (us := [.string r.o, .string r.nm, .int .i64 r.n, .slice r.A r.ll r.cap, .int .i64 r.p, .bool true]) (by omega) HB5.out; simp only [setL] at t; exact t, by rw [HI.out]; exact hC5s, HX15.out.keep hk5 (show ¬ (57 = 112) by decide), HX25.out.keep hk5 (show ¬ (57 = 112) by decide), by rw [HI.out]; exact HX35.out.keep hk5 (show ¬ (57 = 112) by decide), by have t := Fx.setL (q := w1.heap.size) (i := 12) (us := [.string r.o, .string r.nm, .int .i64 r.n, .slice r.A r.ll r.cap, .int .i64 r.p, .bool true]) (.inl (by omega)) HF5.out; simp only [setL] at t; exact t⟩ ?_
  rintro W9 ⟨hM, hB, hC, hX1, hX2, hX3, hF⟩
  refine (mwant_any W9 hM _).mono ?_
  rintro e wZ ⟨rfl, hMZ, hFZ⟩
  have HMZ := Lib.hid (show MRd wZ xb rb b D (st.vrbl D).2 from hMZ)
  have hBZ := hB.fx hFZ (HN.out _ (Nat.le_refl _))
  have hCZ := hC.fx hFZ (HN.out _ (by omega))
  have hkZ : Kt (w.heap.size + 1) E0 W9 wZ := Kt.fx hFZ (fun k hk => by have := x2_lt hk hx hrb; omega)
  have HX1 := Lib.hid (hX1.keep hkZ id)
  have HX2 := Lib.hid (hX2.keep hkZ id)
  have HX3 := Lib.hid (hX3.keep hkZ id)
  have HFZ := Lib.hid (hF.trans hFZ)
  have hlZ := hCZ.lt
  have hlB := hBZ.lt
  have HBZ := Lib.hid hBZ
  have HCZ := Lib.hid hCZ
  clear hM hB hC hX1 hX2 hX3 hF hMZ hFZ hBZ hCZ hkZ hC5s hk5 HM5 HB5 HC5 HX15 HX25 HX35 HF5 z0 z1 z2 z3 z4 z5 z6 z7 z8 z9 z10 z11 z12 z13 z14 z15 z16 z17 z18
  go_upto_region 10 with fail
  apply wp_region_lit
  refine wpList_load_row rfl 112 _ rfl w1.heap.size rfl 112 #[.string ⟨st.name.1.1.toArray⟩, .bool ((st.name.2.want [58]).vals D).1.1, .string p.o, .string p.nm, .int .i64 p.n, .slice p.A p.ll p.cap, .int .i64 p.p, .string q.o, .string q.nm, .int .i64 q.n, .slice q.A q.ll q.cap, .int .i64 q.p, .string r.o, .string r.nm, .int .i64 r.n, .slice r.A r.ll r.cap, .int .i64 r.p, .bool (((st.name.2.want [58]).vals D).2.init D).1.2, .int .i64 ((st.name.1.2 : Nat) : Int)] (0, 0) _ HCZ.out Tryz.underlying112 rfl (by kernel_rfl) ?_
  refine Go.wpList_store_rowTo rfl 112 _ _ rfl rfl w.heap.size #[.string ⟨st.name.1.1.toArray⟩, .bool ((st.name.2.want [58]).vals D).1.1, .string p.o, .string p.nm, .int .i64 p.n, .slice p.A p.ll p.cap, .int .i64 p.p, .string q.o, .string q.nm, .int .i64 q.n, .slice q.A q.ll q.cap, .int .i64 q.p, .string r.o, .string r.nm, .int .i64 r.n, .slice r.A r.ll r.cap, .int .i64 r.p, .bool (((st.name.2.want [58]).vals D).2.init D).1.2, .int .i64 ((st.name.1.2 : Nat) : Int)] rfl rfl 112 #[.string ⟨#[]⟩, .bool false, .string ⟨#[]⟩, .string ⟨#[]⟩, .int .i64 0, .slice none 0 0, .int .i64 0, .string ⟨#[]⟩, .string ⟨#[]⟩, .int .i64 0, .slice none 0 0, .int .i64 0, .string ⟨#[]⟩, .string ⟨#[]⟩, .int .i64 0, .slice none 0 0, .int .i64 0, .bool false, .int .i64 0] HBZ.out (by kernel_rfl) rfl (by simp [Value.oneCell']) ?_
  apply wpList_nil
  go_wp2
  refine bodyPost_ret (v := .agg #[.string ⟨st.name.1.1.toArray⟩, .bool ((st.name.2.want [58]).vals D).1.1, .string p.o, .string p.nm, .int .i64 p.n, .slice p.A p.ll p.cap, .int .i64 p.p, .string q.o, .string q.nm, .int .i64 q.n, .slice q.A q.ll q.cap, .int .i64 q.p, .string r.o, .string r.nm, .int .i64 r.n, .slice r.A r.ll r.cap, .int .i64 r.p, .bool (((st.name.2.want [58]).vals D).2.init D).1.2, .int .i64 ((st.name.1.2 : Nat) : Int)]) (results_cell_row rfl _ _ w.heap.size 112 #[.string ⟨st.name.1.1.toArray⟩, .bool ((st.name.2.want [58]).vals D).1.1, .string p.o, .string p.nm, .int .i64 p.n, .slice p.A p.ll p.cap, .int .i64 p.p, .string q.o, .string q.nm, .int .i64 q.n, .slice q.A q.ll q.cap, .int .i64 q.p, .string r.o, .string r.nm, .int .i64 r.n, .slice r.A r.ll r.cap, .int .i64 r.p, .bool (((st.name.2.want [58]).vals D).2.init D).1.2, .int .i64 ((st.name.1.2 : Nat) : Int)] (0, 0) _ rfl (row_at HBZ.out _) Tryz.underlying112 rfl (by kernel_rfl)) rfl ⟨p, q, r, rfl, ?_, ?_, ?_, ?_, ?_⟩
  · exact HX1.out.keep (E := E0) (fun k _ _ hk _ _ => row_far (by omega)) id
  · exact HX2.out.keep (E := E0) (fun k _ _ hk _ _ => row_far (by omega)) id
  · exact HX3.out.keep (E := E0) (fun k _ _ hk _ _ => row_far (by omega)) id
  · exact HMZ.out.keep (fun k _ _ hk he => row_far (fun e => by subst e; exact absurd (blk_typ hk HBZ.out) (fun e2 => by subst e2; exact absurd he (by unfold RdT; decide)))) (fun k hk => row_far (by omega)) (row_size _ _ _)
  · exact ⟨HFZ.out.os, HFZ.out.tape, HFZ.out.output, Nat.le_trans HFZ.out.size (row_size _ _ _), fun k hk hn => (row_far (by omega)).trans (HFZ.out.block k hk hn)⟩
end
end
section
open Go.RowKit

section
variable {xb rb b D : Nat} {st : St}
set_option maxHeartbeats 8000000 in
set_option maxRecDepth 100000 in
theorem mvar_4 (w : World) (h : MRd w xb rb b D st) (hi : isT (st.name.2.want [58]).hd wBool = false) (hi2 : isT ((st.name.2.want [58]).vals D).2.hd wInit = false) : Calls Tryz.prog 109 #[.pointer (some ⟨xb, 0, none⟩)] w (VmP xb rb b D (st.vrbl D) w) := by
  have hx := h.ltx
  have hrb := h.hr
  have HN := Lib.hid h.nx
  have hbl := h.ble
  have H := Lib.hid h
  clear h
  go_enter Tryz.func109, Tryz.ntmps109
  go_wp2_with fail
  refine calls_gen (P := fun W => MRd W xb rb b D st ∧ Bx W w.heap.size 112 [.string ⟨#[]⟩, .bool false, .string ⟨#[]⟩, .string ⟨#[]⟩, .int .i64 0, .slice none 0 0, .int .i64 0, .string ⟨#[]⟩, .string ⟨#[]⟩, .int .i64 0, .slice none 0 0, .int .i64 0, .string ⟨#[]⟩, .string ⟨#[]⟩, .int .i64 0, .slice none 0 0, .int .i64 0, .bool false, .int .i64 0] ∧ Fx (X2 xb rb) w W) ⟨H.out.alloc _, Bx.new _ _ _, (Fx.refl _ _).alloc _⟩ ?_
  rintro W ⟨hM, hB, hF⟩
  refine (mname_any W hM).mono ?_
  rintro e w1 ⟨rfl, hM1, hF1⟩
  have HM1 := Lib.hid hM1
  have HB1 := Lib.hid (hB.fx hF1 (HN.out _ (Nat.le_refl _)))
  have HF1 := Lib.hid (hF.trans hF1)
  have hs1 := HB1.out.lt
  clear hM hB hF hM1 hF1 H
  go_upto_region 2 with fail
  apply wp_region_lit
  refine Go.Great.wpList_runTo rfl (some 11) rfl (.string ⟨st.name.1.1.toArray⟩) w1 rfl ?_
  refine Go.Great.wpList_runTo rfl (some 12) rfl (.int .i64 ((st.name.1.2 : Nat) : Int)) w1 rfl ?_
  refine Go.wpList_buildTo rfl 112 _ rfl (some 13) rfl #[.string ⟨st.name.1.1.toArray⟩, .bool false, .string ⟨#[]⟩, .string ⟨#[]⟩, .int .i64 0, .slice none 0 0, .int .i64 0, .string ⟨#[]⟩, .string ⟨#[]⟩, .int .i64 0, .slice none 0 0, .int .i64 0, .string ⟨#[]⟩, .string ⟨#[]⟩, .int .i64 0, .slice none 0 0, .int .i64 0, .bool false, .int .i64 ((st.name.1.2 : Nat) : Int)] (by kernel_rfl) ?_
  refine Go.Great.wpList_runTo rfl (some 5) rfl (.pointer (some ⟨w1.heap.size, 0, none⟩)) (w1.alloc (.cells #[.string ⟨#[]⟩, .bool false, .string ⟨#[]⟩, .string ⟨#[]⟩, .int .i64 0, .slice none 0 0, .int .i64 0, .string ⟨#[]⟩, .string ⟨#[]⟩, .int .i64 0, .slice none 0 0, .int .i64 0, .string ⟨#[]⟩, .string ⟨#[]⟩, .int .i64 0, .slice none 0 0, .int .i64 0, .bool false, .int .i64 0] 112)) (by kernel_rfl) ?_
  refine Go.wpList_store_rowTo rfl 112 _ _ rfl rfl w1.heap.size #[.string ⟨st.name.1.1.toArray⟩, .bool false, .string ⟨#[]⟩, .string ⟨#[]⟩, .int .i64 0, .slice none 0 0, .int .i64 0, .string ⟨#[]⟩, .string ⟨#[]⟩, .int .i64 0, .slice none 0 0, .int .i64 0, .string ⟨#[]⟩, .string ⟨#[]⟩, .int .i64 0, .slice none 0 0, .int .i64 0, .bool false, .int .i64 ((st.name.1.2 : Nat) : Int)] rfl rfl 112 #[.string ⟨#[]⟩, .bool false, .string ⟨#[]⟩, .string ⟨#[]⟩, .int .i64 0, .slice none 0 0, .int .i64 0, .string ⟨#[]⟩, .string ⟨#[]⟩, .int .i64 0, .slice none 0 0, .int .i64 0, .string ⟨#[]⟩, .string ⟨#[]⟩, .int .i64 0, .slice none 0 0, .int .i64 0, .bool false, .int .i64 0] (heap_alloc_new w1 _) (by kernel_rfl) rfl (by simp [Value.oneCell']) ?_
  rw [World.setRow_alloc_new]
  apply wpList_nil
  go_wp2_with fail
  refine calls_gen (P := fun W => MRd W xb rb b D st.name.2 ∧ Bx W w.heap.size 112 [.string ⟨#[]⟩, .bool false, .string ⟨#[]⟩, .string ⟨#[]⟩, .int .i64 0, .slice none 0 0, .int .i64 0, .string ⟨#[]⟩, .string ⟨#[]⟩, .int .i64 0, .slice none 0 0, .int .i64 0, .string ⟨#[]⟩, .string ⟨#[]⟩, .int .i64 0, .slice none 0 0, .int .i64 0, .bool false, .int .i64 0] ∧ Bx W w1.heap.size 112 [.string ⟨st.name.1.1.toArray⟩, .bool false, .string ⟨#[]⟩, .string ⟨#[]⟩, .int .i64 0, .slice none 0 0, .int .i64 0, .string ⟨#[]⟩, .string ⟨#[]⟩, .int .i64 0, .slice none 0 0, .int .i64 0, .string ⟨#[]⟩, .string ⟨#[]⟩, .int .i64 0, .slice none 0 0, .int .i64 0, .bool false, .int .i64 ((st.name.1.2 : Nat) : Int)] ∧ Fx (X2 xb rb) w W) ⟨HM1.out.alloc _, HB1.out.alloc _, Bx.new _ _ _, HF1.out.alloc _⟩ ?_
  rintro W ⟨hM, hB, hC, hF⟩
  refine (mwant_any W hM _).mono ?_
  rintro e w2 ⟨rfl, hM2, hF2⟩
  have HM2 := Lib.hid (show MRd w2 xb rb b D (st.name.2.want [58]) from hM2)
  have hC2 := hC.fx hF2 (HN.out _ (by omega))
  have HC2 := Lib.hid hC2
  have HB2 := Lib.hid (hB.fx hF2 (HN.out _ (Nat.le_refl _)))
  have HF2 := Lib.hid (hF.trans hF2)
  have c0 := HM2.out.c0
  have hx2 := HM2.out.ltx
  have hl2 := HC2.out.lt
  clear hM hB hC hF hM2 hF2 hC2 HM1 HB1 HF1
  go_wp2_with fail
  have HV := Lib.hid (show (st.name.2.want [58]).vals D = ((false, ((st.name.2.want [58]).bnds D).1), ((st.name.2.want [58]).bnds D).2) by simp [St.vals, hi])
  refine (HM2.out.skip_no ⟨#[98, 111, 111, 108]⟩ hi).mono ?_
  rintro e w3 ⟨rfl, hb3⟩
  have HM3 := Lib.hid (HM2.out.below hb3)
  have HB3 := Lib.hid (HB2.out.below hb3)
  have HC3 := Lib.hid (HC2.out.below hb3)
  have HF3 := Lib.hid (HF2.out.on hb3)
  clear hb3 hi HM2 HB2 HC2 HF2 c0
  go_wp2_with fail
  refine (mbounds_any w3 HM3.out).mono ?_
  rintro e w3' ⟨p, q, rfl, hX1, hX2, hM3', hF3'⟩
  have HM3' := Lib.hid hM3'
  have HX1' := Lib.hid (hX1.mono (by have := HF3.out.size; omega : w.heap.size + 1 ≤ w3.heap.size + 1))
  have HX2' := Lib.hid (hX2.mono (by have := HF3.out.size; omega : w.heap.size + 1 ≤ w3.heap.size + 1))
  have HB3' := Lib.hid (HB3.out.fx hF3' (HN.out _ (Nat.le_refl _)))
  have hC3' := HC3.out.fx hF3' (HN.out _ (by omega))
  have HF3' := Lib.hid (HF3.out.trans hF3')
  have a0 := hC3'.cell 0
  have a1 := hC3'.cell 1
  have a2 := hC3'.cell 2
  have a3 := hC3'.cell 3
  have a4 := hC3'.cell 4
  have a5 := hC3'.cell 5
  have a6 := hC3'.cell 6
  have a7 := hC3'.cell 7
  have a8 := hC3'.cell 8
  have a9 := hC3'.cell 9
  have a10 := hC3'.cell 10
  have a11 := hC3'.cell 11
  have a12 := hC3'.cell 12
  have a13 := hC3'.cell 13
  have a14 := hC3'.cell 14
  have a15 := hC3'.cell 15
  have a16 := hC3'.cell 16
  have a17 := hC3'.cell 17
  have a18 := hC3'.cell 18
  simp only [List.getElem?_cons_zero, List.getElem?_cons_succ] at a0 a1 a2 a3 a4 a5 a6 a7 a8 a9 a10 a11 a12 a13 a14 a15 a16 a17 a18
  have z0 := hC3'.frozen 0
  have z1 := hC3'.frozen 1
  have z2 := hC3'.frozen 2
  have z3 := hC3'.frozen 3
  have z4 := hC3'.frozen 4
  have z5 := hC3'.frozen 5
  have z6 := hC3'.frozen 6
  have z7 := hC3'.frozen 7
  have z8 := hC3'.frozen 8
  have z9 := hC3'.frozen 9
  have z10 := hC3'.frozen 10
  have z11 := hC3'.frozen 11
  have z12 := hC3'.frozen 12
  have z13 := hC3'.frozen 13
  have z14 := hC3'.frozen 14
  have z15 := hC3'.frozen 15
  have z16 := hC3'.frozen 16
  have z17 := hC3'.frozen 17
  have z18 := hC3'.frozen 18
  have hl3 := hC3'.lt
  have hxn : xb ≠ w1.heap.size := by omega
  have c3 := HM3'.out.c0
  have hx3 := HM3'.out.ltx
  have HC3' := Lib.hid hC3'
  clear hM3' hF3' hC3' hX1 hX2 HM3 HB3 HC3 HF3
  go_wp2_with fail
  have et : ((st.name.2.want [58]).bnds D).2.ptr rb = ((st.name.2.want [58]).vals D).2.ptr rb := by rw [HV.out]
  rw [et]
  have hCs := HC3'.out.setL (i := 2) (us := [.string p.o, .string p.nm, .int .i64 p.n, .slice p.A p.ll p.cap, .int .i64 p.p, .string q.o, .string q.nm, .int .i64 q.n, .slice q.A q.ll q.cap, .int .i64 q.p])
  simp only [setL, setLs, List.set_cons_zero, List.set_cons_succ] at hCs
  have hk3 : Kt (w.heap.size + 1) (fun e => e = 112) w3' (setL w3' w1.heap.size 2 [.string p.o, .string p.nm, .int .i64 p.n, .slice p.A p.ll p.cap, .int .i64 p.p, .string q.o, .string q.nm, .int .i64 q.n, .slice q.A q.ll q.cap, .int .i64 q.p]) := Kt.var HC3'.out
  simp only [setL] at hk3
  refine calls_gen (P := fun W => MRd W xb rb b D ((st.name.2.want [58]).vals D).2 ∧ Bx W w.heap.size 112 [.string ⟨#[]⟩, .bool false, .string ⟨#[]⟩, .string ⟨#[]⟩, .int .i64 0, .slice none 0 0, .int .i64 0, .string ⟨#[]⟩, .string ⟨#[]⟩, .int .i64 0, .slice none 0 0, .int .i64 0, .string ⟨#[]⟩, .string ⟨#[]⟩, .int .i64 0, .slice none 0 0, .int .i64 0, .bool false, .int .i64 0] ∧ Bx W w1.heap.size 112 [.string ⟨st.name.1.1.toArray⟩, .bool ((st.name.2.want [58]).vals D).1.1, .string p.o, .string p.nm, .int .i64 p.n, .slice p.A p.ll p.cap, .int .i64 p.p, .string q.o, .string q.nm, .int .i64 q.n, .slice q.A q.ll q.cap, .int .i64 q.p, .string xv0.o, .string xv0.nm, .int .i64 xv0.n, .slice xv0.A xv0.ll xv0.cap, .int .i64 xv0.p, .bool false, .int .i64 ((st.name.1.2 : Nat) : Int)] ∧ XO W (w.heap.size + 1) ((st.name.2.want [58]).vals D).1.2.1 p.c ∧ XO W (w.heap.size + 1) ((st.name.2.want [58]).vals D).1.2.2 q.c ∧ Fx (X2 xb rb) w W) ⟨by rw [HV.out]; have t := MRd.setL (i := 2) (us := [.string p.o, .string p.nm, .int .i64 p.n, .slice p.A p.ll p.cap, .int .i64 p.p, .string q.o, .string q.nm, .int .i64 q.n, .slice q.A q.ll q.cap, .int .i64 q.p]) (by unfold RdT; decide) (by omega) HM3'.out HC3'.out; simp only [setL] at t; exact t, by have t := Bx.farL (q' := w1.heap.size) (i := 2) (us := [.string p.o, .string p.nm, .int .i64 p.n, .slice p.A p.ll p.cap, .int .i64 p.p, .string q.o, .string q.nm, .int .i64 q.n, .slice q.A q.ll q.cap, .int .i64 q.p]) (by omega) HB3'.out; simp only [setL] at t; exact t, by rw [HV.out]; exact hCs, by rw [HV.out]; exact HX1'.out.keep hk3 (show ¬ (57 = 112) by decide), by rw [HV.out]; exact HX2'.out.keep hk3 (show ¬ (57 = 112) by decide), by have t := Fx.setL (q := w1.heap.size) (i := 2) (us := [.string p.o, .string p.nm, .int .i64 p.n, .slice p.A p.ll p.cap, .int .i64 p.p, .string q.o, .string q.nm, .int .i64 q.n, .slice q.A q.ll q.cap, .int .i64 q.p]) (.inl (by omega)) HF3'.out; simp only [setL] at t; exact t⟩ ?_
  rintro W ⟨hM, hB, hC, hX1, hX2, hF⟩
  clear c3 hx3 et hCs hk3 HM3' HX1' HX2' HB3' HC3' HF3' a0 z0 a1 z1 a2 z2 a3 z3 a4 z4 a5 z5 a6 z6 a7 z7 a8 z8 a9 z9 a10 z10 a11 z11 a12 z12 a13 z13 a14 z14 a15 z15 a16 z16 a17 z17 a18 z18
  have HI := Lib.hid (show ((st.name.2.want [58]).vals D).2.init D = ((none, false), ((st.name.2.want [58]).vals D).2) by simp [St.init, hi2])
  refine (hM.skip_no ⟨#[105, 110, 105, 116]⟩ hi2).mono ?_
  rintro e w4 ⟨rfl, hb4⟩
  have HM4 := Lib.hid (hM.below hb4)
  have HB4 := Lib.hid (hB.below hb4)
  have HC4 := Lib.hid (hC.below hb4)
  have HX14 := Lib.hid (hX1.below hb4)
  have HX24 := Lib.hid (hX2.below hb4)
  have HF4 := Lib.hid (hF.on hb4)
  clear hM hB hC hX1 hX2 hF hb4 hi2
  go_wp2_with fail
  refine calls_gen (P := fun W => MRd W xb rb b D (((st.name.2.want [58]).vals D).2.init D).2 ∧ Bx W w.heap.size 112 [.string ⟨#[]⟩, .bool false, .string ⟨#[]⟩, .string ⟨#[]⟩, .int .i64 0, .slice none 0 0, .int .i64 0, .string ⟨#[]⟩, .string ⟨#[]⟩, .int .i64 0, .slice none 0 0, .int .i64 0, .string ⟨#[]⟩, .string ⟨#[]⟩, .int .i64 0, .slice none 0 0, .int .i64 0, .bool false, .int .i64 0] ∧ Bx W w1.heap.size 112 [.string ⟨st.name.1.1.toArray⟩, .bool ((st.name.2.want [58]).vals D).1.1, .string p.o, .string p.nm, .int .i64 p.n, .slice p.A p.ll p.cap, .int .i64 p.p, .string q.o, .string q.nm, .int .i64 q.n, .slice q.A q.ll q.cap, .int .i64 q.p, .string xv0.o, .string xv0.nm, .int .i64 xv0.n, .slice xv0.A xv0.ll xv0.cap, .int .i64 xv0.p, .bool (((st.name.2.want [58]).vals D).2.init D).1.2, .int .i64 ((st.name.1.2 : Nat) : Int)] ∧ XO W (w.heap.size + 1) ((st.name.2.want [58]).vals D).1.2.1 p.c ∧ XO W (w.heap.size + 1) ((st.name.2.want [58]).vals D).1.2.2 q.c ∧ XO W (w.heap.size + 1) (((st.name.2.want [58]).vals D).2.init D).1.1 xv0.c ∧ Fx (X2 xb rb) w W) ⟨by rw [HI.out]; exact HM4.out, HB4.out, by rw [HI.out]; exact HC4.out, HX14.out, HX24.out, by rw [HI.out]; rfl, HF4.out⟩ ?_
  rintro W9 ⟨hM, hB, hC, hX1, hX2, hX3, hF⟩
  refine (mwant_any W9 hM _).mono ?_
  rintro e wZ ⟨rfl, hMZ, hFZ⟩
  have HMZ := Lib.hid (show MRd wZ xb rb b D (st.vrbl D).2 from hMZ)
  have hBZ := hB.fx hFZ (HN.out _ (Nat.le_refl _))
  have hCZ := hC.fx hFZ (HN.out _ (by omega))
  have hkZ : Kt (w.heap.size + 1) E0 W9 wZ := Kt.fx hFZ (fun k hk => by have := x2_lt hk hx hrb; omega)
  have HX1 := Lib.hid (hX1.keep hkZ id)
  have HX2 := Lib.hid (hX2.keep hkZ id)
  have HX3 := Lib.hid (hX3.keep hkZ id)
  have HFZ := Lib.hid (hF.trans hFZ)
  have hlZ := hCZ.lt
  have hlB := hBZ.lt
  have HBZ := Lib.hid hBZ
  have HCZ := Lib.hid hCZ
  clear hM hB hC hX1 hX2 hX3 hF hMZ hFZ hBZ hCZ hkZ HM4 HB4 HC4 HX14 HX24 HF4
  go_upto_region 10 with fail
  apply wp_region_lit
  refine wpList_load_row rfl 112 _ rfl w1.heap.size rfl 112 #[.string ⟨st.name.1.1.toArray⟩, .bool ((st.name.2.want [58]).vals D).1.1, .string p.o, .string p.nm, .int .i64 p.n, .slice p.A p.ll p.cap, .int .i64 p.p, .string q.o, .string q.nm, .int .i64 q.n, .slice q.A q.ll q.cap, .int .i64 q.p, .string xv0.o, .string xv0.nm, .int .i64 xv0.n, .slice xv0.A xv0.ll xv0.cap, .int .i64 xv0.p, .bool (((st.name.2.want [58]).vals D).2.init D).1.2, .int .i64 ((st.name.1.2 : Nat) : Int)] (0, 0) _ HCZ.out Tryz.underlying112 rfl (by kernel_rfl) ?_
  refine Go.wpList_store_rowTo rfl 112 _ _ rfl rfl w.heap.size #[.string ⟨st.name.1.1.toArray⟩, .bool ((st.name.2.want [58]).vals D).1.1, .string p.o, .string p.nm, .int .i64 p.n, .slice p.A p.ll p.cap, .int .i64 p.p, .string q.o, .string q.nm, .int .i64 q.n, .slice q.A q.ll q.cap, .int .i64 q.p, .string xv0.o, .string xv0.nm, .int .i64 xv0.n, .slice xv0.A xv0.ll xv0.cap, .int .i64 xv0.p, .bool (((st.name.2.want [58]).vals D).2.init D).1.2, .int .i64 ((st.name.1.2 : Nat) : Int)] rfl rfl 112 #[.string ⟨#[]⟩, .bool false, .string ⟨#[]⟩, .string ⟨#[]⟩, .int .i64 0, .slice none 0 0, .int .i64 0, .string ⟨#[]⟩, .string ⟨#[]⟩, .int .i64 0, .slice none 0 0, .int .i64 0, .string ⟨#[]⟩, .string ⟨#[]⟩, .int .i64 0, .slice none 0 0, .int .i64 0, .bool false, .int .i64 0] HBZ.out (by kernel_rfl) rfl (by simp [Value.oneCell']) ?_
  apply wpList_nil
  go_wp2
  refine bodyPost_ret (v := .agg #[.string ⟨st.name.1.1.toArray⟩, .bool ((st.name.2.want [58]).vals D).1.1, .string p.o, .string p.nm, .int .i64 p.n, .slice p.A p.ll p.cap, .int .i64 p.p, .string q.o, .string q.nm, .int .i64 q.n, .slice q.A q.ll q.cap, .int .i64 q.p, .string xv0.o, .string xv0.nm, .int .i64 xv0.n, .slice xv0.A xv0.ll xv0.cap, .int .i64 xv0.p, .bool (((st.name.2.want [58]).vals D).2.init D).1.2, .int .i64 ((st.name.1.2 : Nat) : Int)]) (results_cell_row rfl _ _ w.heap.size 112 #[.string ⟨st.name.1.1.toArray⟩, .bool ((st.name.2.want [58]).vals D).1.1, .string p.o, .string p.nm, .int .i64 p.n, .slice p.A p.ll p.cap, .int .i64 p.p, .string q.o, .string q.nm, .int .i64 q.n, .slice q.A q.ll q.cap, .int .i64 q.p, .string xv0.o, .string xv0.nm, .int .i64 xv0.n, .slice xv0.A xv0.ll xv0.cap, .int .i64 xv0.p, .bool (((st.name.2.want [58]).vals D).2.init D).1.2, .int .i64 ((st.name.1.2 : Nat) : Int)] (0, 0) _ rfl (row_at HBZ.out _) Tryz.underlying112 rfl (by kernel_rfl)) rfl ⟨p, q, xv0, rfl, ?_, ?_, ?_, ?_, ?_⟩
  · exact HX1.out.keep (E := E0) (fun k _ _ hk _ _ => row_far (by omega)) id
  · exact HX2.out.keep (E := E0) (fun k _ _ hk _ _ => row_far (by omega)) id
  · exact HX3.out.keep (E := E0) (fun k _ _ hk _ _ => row_far (by omega)) id
  · exact HMZ.out.keep (fun k _ _ hk he => row_far (fun e => by subst e; exact absurd (blk_typ hk HBZ.out) (fun e2 => by subst e2; exact absurd he (by unfold RdT; decide)))) (fun k hk => row_far (by omega)) (row_size _ _ _)
  · exact ⟨HFZ.out.os, HFZ.out.tape, HFZ.out.output, Nat.le_trans HFZ.out.size (row_size _ _ _), fun k hk hn => (row_far (by omega)).trans (HFZ.out.block k hk hn)⟩
end
end
section
open Go.RowKit

section
variable {xb rb b D : Nat} {st : St}
theorem mvar_any (w : World) (h : MRd w xb rb b D st) : Calls Tryz.prog 109 #[.pointer (some ⟨xb, 0, none⟩)] w (VmP xb rb b D (st.vrbl D) w) := by
  cases hi : isT (st.name.2.want [58]).hd wBool with
  | true =>
    cases hi2 : isT ((st.name.2.want [58]).vals D).2.hd wInit with
    | true => exact mvar_1 w h hi hi2
    | false => exact mvar_2 w h hi hi2
  | false =>
    cases hi2 : isT ((st.name.2.want [58]).vals D).2.hd wInit with
    | true => exact mvar_3 w h hi hi2
    | false => exact mvar_4 w h hi hi2
end
end
end Go.Proofs.YtodijgndbjfbgaaGreatDoor
