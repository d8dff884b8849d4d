/-
  A branch, walked.
-/
import Derived.Test.YtddeplbgihcdkaaGreatDoorGb
import Derived.Deep.AppendLies
namespace Go.Proofs.YtddeplbgihcdkaaGreatDoor
open Go.RowKit

section
variable {xb rb b D : Nat} {st : St}
set_option maxHeartbeats 4000000 in
theorem mbranch_any (w : World) (h : MRd w xb rb b D st) : Calls Tryz.prog 244 #[.pointer (some ⟨xb, 0, none⟩)] w (BrP xb rb b D (st.brch D) w) := by
  have hlen := h.len
  have hx := h.ltx
  have hrb := h.hr
  have HN := Lib.hid h.nx
  have hbl := h.ble
  have H := Lib.hid h
  clear h
  have hf0 := field0
  have hf1 := field1
  have hf2 := field2
  have c0 := H.out.c0
  go_enter Tryz.func244, Tryz.ntmps244
  go_wp2_with fail
  refine calls_gen (P := fun W => MRd W xb rb b D st ∧ Bx W w.heap.size 158 [.int .i64 0, .slice none 0 0, .int .i64 0] ∧ Fx (X2 xb rb) w W) ⟨H.out.alloc _, Bx.new _ _ _, (Fx.refl _ _).alloc _⟩ ?_
  rintro W ⟨hM, hB, hF⟩
  refine (hM.peek).mono ?_
  rintro e w1 ⟨rfl, hb1⟩
  have HM1 := Lib.hid (hM.below hb1)
  have HB1 := Lib.hid (hB.below hb1)
  have HF1 := Lib.hid (hF.on hb1)
  have hs1 := HB1.out.lt
  clear hM hB hF hb1 H c0
  go_wp2_with fail
  refine calls_gen (P := fun W => MRd W xb rb b D st ∧ Bx W w.heap.size 158 [.int .i64 0, .slice none 0 0, .int .i64 0] ∧ Bx W w1.heap.size 158 [.int .i64 0, .slice none 0 0, .int .i64 ((st.hd.pos : Nat) : Int)] ∧ Fx (X2 xb rb) w W) ⟨HM1.out.alloc _, HB1.out.alloc _, Bx.new _ _ _, HF1.out.alloc _⟩ ?_
  rintro W ⟨hM, hB, hC, hF⟩
  refine (mweight_any W hM).mono ?_
  rintro e w2 ⟨rfl, hM2, hF2⟩
  have hC2 := hC.fx hF2 (HN.out _ (by omega))
  have hB2 := hB.fx hF2 (HN.out _ (Nat.le_refl _))
  have c0 := hM2.c0
  have hx2 := hM2.ltx
  have a0 := hC2.cell 0
  have a1 := hC2.cell 1
  have a2 := hC2.cell 2
  simp only [List.getElem?_cons_zero, List.getElem?_cons_succ] at a0 a1 a2
  have y0 := hC2.frozen 0
  have y1 := hC2.frozen 1
  have y2 := hC2.frozen 2
  have hl2 := hC2.lt
  have hxn : xb ≠ w1.heap.size := by omega
  have HM2 := Lib.hid hM2
  have HB2 := Lib.hid hB2
  have HC2 := Lib.hid hC2
  have HF2 := Lib.hid (hF.trans hF2)
  clear hM hB hC hF hM2 hF2 hC2 hB2 HM1 HB1 HF1
  go_wp2_with fail
  refine calls_gen (P := fun W => MRd W xb rb b D st.wght.2 ∧ Bx W w.heap.size 158 [.int .i64 0, .slice none 0 0, .int .i64 0] ∧ Bx W w1.heap.size 158 [.int .i64 ((st.wght.1 : Nat) : Int), .slice none 0 0, .int .i64 ((st.hd.pos : Nat) : Int)] ∧ Fx (X2 xb rb) w W) ⟨HM2.out.set HC2.out (by unfold RdT; decide) (by omega) _, HB2.out.far (p := ⟨w1.heap.size, 0, none⟩) (by show w.heap.size ≠ w1.heap.size; omega) _, HC2.out.set 0 _, HF2.out.setCell (p := ⟨w1.heap.size, 0, none⟩) (.inl (by show _ ≤ w1.heap.size; omega)) _⟩ ?_
  rintro W ⟨hM, hB, hC, hF⟩
  have hlW := hC.lt
  clear HM2 HB2 HC2 HF2 c0 a0 a1 a2 y0 y1 y2
  cases hi : isT st.wght.2.hd opTrue with
  | true =>
    refine (hM.skip_yes ⟨#[116, 114, 117, 101]⟩ hi).mono ?_
    rintro e w3 ⟨rfl, hM3, hF3⟩
    have hB3 := hB.fx hF3 (HN.out _ (Nat.le_refl _))
    have hC3 := hC.fx hF3 (HN.out _ (by omega))
    have HM3 := Lib.hid (show MRd w3 xb rb b D (st.brch D).2 by
      have e : (st.brch D).2 = st.wght.2.tl := by simp [St.brch, St.sets, hi]
      rw [e]; exact hM3)
    have HE := Lib.hid (show (st.brch D).1 = ⟨st.wght.1, [], st.hd.pos⟩ by simp [St.brch, St.sets, hi])
    have HF3 := Lib.hid (hF.trans hF3)
    have a0 := hC3.cell 0
    have a1 := hC3.cell 1
    have a2 := hC3.cell 2
    simp only [List.getElem?_cons_zero, List.getElem?_cons_succ] at a0 a1 a2
    have d0 := hB3.cell 0
    have d1 := hB3.cell 1
    have d2 := hB3.cell 2
    simp only [List.getElem?_cons_zero, List.getElem?_cons_succ] at d0 d1 d2
    have y0 := hB3.frozen 0
    have y1 := hB3.frozen 1
    have y2 := hB3.frozen 2
    have hl3 := hC3.lt
    have hl4 := hB3.lt
    have HB3 := Lib.hid hB3
    clear hM hB hC hF hM3 hF3 hC3 hB3 hi
    go_wp2
    have hB4 := HB3.out.setL (i := 0) (us := [.int .i64 ((st.wght.1 : Nat) : Int), .slice none 0 0, .int .i64 ((st.hd.pos : Nat) : Int)])
    simp only [setL, setLs, List.set_cons_zero, List.set_cons_succ] at hB4
    refine bodyPost_ret (v := .agg #[.int .i64 ((st.wght.1 : Nat) : Int), .slice none 0 0, .int .i64 ((st.hd.pos : Nat) : Int)]) (by simp [results, Tryz.results244, go_sem, hB4.cell]) rfl ⟨none, 0, by rw [HE.out]; rfl, ?_, ?_, ?_⟩
    · rw [HE.out]; exact Row.nil _ _ _ _ _
    · exact MRd.setL (i := 0) (us := [.int .i64 ((st.wght.1 : Nat) : Int), .slice none 0 0, .int .i64 ((st.hd.pos : Nat) : Int)]) (by unfold RdT; decide) (by omega) HM3.out HB3.out
    · exact Fx.setL (i := 0) (us := [.int .i64 ((st.wght.1 : Nat) : Int), .slice none 0 0, .int .i64 ((st.hd.pos : Nat) : Int)]) (.inl (Nat.le_refl _)) HF3.out
  | false =>
    refine (hM.skip_no ⟨#[116, 114, 117, 101]⟩ hi).mono ?_
    rintro e w3 ⟨rfl, hb3⟩
    have HM3 := Lib.hid (hM.below hb3)
    have HB3 := Lib.hid (hB.below hb3)
    have HC3 := Lib.hid (hC.below hb3)
    have HF3 := Lib.hid (hF.on hb3)
    have HL0 := Lib.hid (show (st.wght.2.sett D).2.len ≤ 65537 from Nat.le_trans (Nat.le_trans (sett_le D _).1 (wght_le st).1) hlen)
    have HE := Lib.hid (show st.brch D = (⟨st.wght.1, (st.wght.2.sett D).1 :: ((st.wght.2.sett D).2.list (fun t => isT t [38]) (fun s => s.tl.sett D)).1, st.hd.pos⟩, ((st.wght.2.sett D).2.list (fun t => isT t [38]) (fun s => s.tl.sett D)).2) by simp [St.brch, St.sets, hi])
    clear hM hB hC hF hb3 hi
    go_wp2_with fail
    refine (msett_any w3 HM3.out).mono ?_
    rintro e w4 ⟨v, rfl, hX, hM4, hF4⟩
    have HM4 := Lib.hid hM4
    have HX4 := Lib.hid (show XO w4 (w.heap.size + 1) (st.wght.2.sett D).1.x v.c from hX.mono (by have := HF3.out.size; omega))
    have HB4 := Lib.hid (HB3.out.fx hF4 (HN.out _ (Nat.le_refl _)))
    have HC4 := Lib.hid (HC3.out.fx hF4 (HN.out _ (by omega)))
    have HF4 := Lib.hid (HF3.out.trans hF4)
    have hs4 := HC4.out.lt
    clear hX hM4 hF4 HM3 HB3 HC3 HF3
    go_wp2_with fail
    refine calls_gen (P := fun W => MRd W xb rb b D (st.wght.2.sett D).2 ∧ Bx W w.heap.size 158 [.int .i64 0, .slice none 0 0, .int .i64 0] ∧ Bx W w1.heap.size 158 [.int .i64 ((st.wght.1 : Nat) : Int), .slice none 0 0, .int .i64 ((st.hd.pos : Nat) : Int)] ∧ Row W (w.heap.size + 1) 201 7 (DH W (w.heap.size + 1)) [(st.wght.2.sett D).1] (.slice (some ⟨w4.heap.size, 0, none⟩) 1 1) ∧ w4.heap.size < W.heap.size ∧ Fx (X2 xb rb) w W) ⟨HM4.out.alloc _, HB4.out.alloc _, HC4.out.alloc _, ?_, by simp, HF4.out.alloc _⟩ ?_
    · exact Row.one (P := DH (w4.alloc _) (w.heap.size + 1)) (a := (st.wght.2.sett D).1) (c := [.string ⟨(st.wght.2.sett D).1.nm.toArray⟩, .string v.o, .string v.nm, .int .i64 v.n, .slice v.A v.ll v.cap, .int .i64 v.p, .int .i64 (((st.wght.2.sett D).1.pos : Nat) : Int)]) ⟨v, rfl, HX4.out.alloc _⟩ rfl (by omega)
    rintro W2 ⟨hM, hB, hC, hR, hwl, hF⟩
    refine (mskips_any W2 hM _).mono ?_
    rintro e w5 ⟨p, q, rfl, hcap, hp1, hq1, hp2, hq2, hb5⟩
    have HM5 := Lib.hid (hM.below hb5)
    have HB5 := Lib.hid (hB.below hb5)
    have HC5 := Lib.hid (hC.below hb5)
    have HR5 := Lib.hid (hR.keep (E := E0) (Kt.below hb5) id (fun _ _ h => h.keep (Kt.below (E := E0) hb5) id))
    have HF5 := Lib.hid (hF.on hb5)
    have HCA := Lib.hid hcap
    have hs5 : w4.heap.size < w5.heap.size := by have := hb5.size; omega
    clear hM hB hC hR hF hb5 hcap HM4 HX4 HB4 HC4 HF4
    go_wp2_with fail
    refine (lset_any (b1 := w.heap.size + 1) (row0 := some w4.heap.size) w5 HM5.out _ HCA.out ⟨by intro h; injection h; omega, by intro h; injection h; omega⟩ (by omega) (by omega) ⟨by omega, by omega⟩ HR5.out rfl (by have := HL0.out; simp; omega)).mono ?_
    rintro e w6 ⟨A, cap, rfl, hR6, hM6, hF6, _⟩
    have hF6' : Fx (X3 xb rb (some w4.heap.size)) w5 w6 := hF6
    have hB6 := HB5.out.fx hF6' (nx3 (HN.out _ (Nat.le_refl _)) (by intro h; injection h; omega))
    have hC6 := HC5.out.fx hF6' (nx3 (HN.out _ (by omega)) (by intro h; injection h; omega))
    have HR6 := Lib.hid hR6
    have HM6 := Lib.hid (show MRd w6 xb rb b D (st.brch D).2 by rw [HE.out]; exact hM6)
    have HF6 := Lib.hid (HF5.out.row hF6' (fun g hg => by injection hg; omega))
    have a0 := hC6.cell 0
    have a1 := hC6.cell 1
    have a2 := hC6.cell 2
    simp only [List.getElem?_cons_zero, List.getElem?_cons_succ] at a0 a1 a2
    have z0 := hC6.frozen 0
    have z1 := hC6.frozen 1
    have z2 := hC6.frozen 2
    have d0 := hB6.cell 0
    have d1 := hB6.cell 1
    have d2 := hB6.cell 2
    simp only [List.getElem?_cons_zero, List.getElem?_cons_succ] at d0 d1 d2
    have y0 := hB6.frozen 0
    have y1 := hB6.frozen 1
    have y2 := hB6.frozen 2
    have hl3 := hC6.lt
    have hl4 := hB6.lt
    have HB6 := Lib.hid hB6
    have HC6 := Lib.hid hC6
    obtain ⟨N, hN⟩ : ∃ N, N = ([(st.wght.2.sett D).1] ++ ((st.wght.2.sett D).2.list (fun t => isT t [38]) (fun s => s.tl.sett D)).1).length := ⟨_, rfl⟩
    have HNN := Lib.hid hN
    rw [show ([(st.wght.2.sett D).1] ++ ((st.wght.2.sett D).2.list (fun t => isT t (⟨#[38]⟩ : ByteArray).data.toList) (fun s => s.tl.sett D)).1).length = N from hN.symm] at HR6 ⊢
    have hn1 : w.heap.size ≠ w1.heap.size := by omega
    clear hR6 hM6 hF6 hF6' hB6 hC6 hN HM5 HB5 HC5 HR5 HF5
    go_wp2
    have hB7 := (HB6.out.far (p := ⟨w1.heap.size, 1, none⟩) (by show w.heap.size ≠ w1.heap.size; omega) (.slice A N cap)).setL (i := 0) (us := [.int .i64 ((st.wght.1 : Nat) : Int), .slice A N cap, .int .i64 ((st.hd.pos : Nat) : Int)])
    simp only [setL, setLs, List.set_cons_zero, List.set_cons_succ] at hB7
    refine bodyPost_ret (v := .agg #[.int .i64 ((st.wght.1 : Nat) : Int), .slice A N cap, .int .i64 ((st.hd.pos : Nat) : Int)]) (by simp [results, Tryz.results244, go_sem, hB7.cell]) rfl ⟨A, cap, by rw [HE.out, HNN.out]; rfl, ?_, ?_, ?_⟩
    · have hk : Kt (w.heap.size + 1) (fun e => e = 158) w6 (setL (w6.setCell ⟨w1.heap.size, 1, none⟩ (.slice A N cap)) w.heap.size 0 [.int .i64 ((st.wght.1 : Nat) : Int), .slice A N cap, .int .i64 ((st.hd.pos : Nat) : Int)]) := fun k cs e hk h1 h2 => (setL_heap (by omega) _ _ _).trans (Below.heap_setCell w6 ⟨w1.heap.size, 1, none⟩ _ k (by show k ≠ w1.heap.size; rintro rfl; exact h2 (blk_typ h1 HC6.out)))
      have hr := HR6.out.keep hk (show ¬ (201 = 158) by decide) (fun _ _ h => h.keep hk (show ¬ (62 = 158) by decide))
      rw [HE.out]
      have e : ((st.wght.2.sett D).1 :: ((st.wght.2.sett D).2.list (fun t => isT t [38]) (fun s => s.tl.sett D)).1).length = N := HNN.out.symm
      dsimp only
      rw [e]
      exact hr
    · exact MRd.setL (i := 0) (us := [.int .i64 ((st.wght.1 : Nat) : Int), .slice A N cap, .int .i64 ((st.hd.pos : Nat) : Int)]) (by unfold RdT; decide) (by omega) (HM6.out.set HC6.out (by unfold RdT; decide) (by omega) _) (HB6.out.far (p := ⟨w1.heap.size, 1, none⟩) (by show w.heap.size ≠ w1.heap.size; omega) _)
    · exact Fx.setL (i := 0) (us := [.int .i64 ((st.wght.1 : Nat) : Int), .slice A N cap, .int .i64 ((st.hd.pos : Nat) : Int)]) (.inl (Nat.le_refl _)) (HF6.out.setCell (p := ⟨w1.heap.size, 1, none⟩) (.inl (by show _ ≤ w1.heap.size; omega)) _)
end
end Go.Proofs.YtddeplbgihcdkaaGreatDoor
