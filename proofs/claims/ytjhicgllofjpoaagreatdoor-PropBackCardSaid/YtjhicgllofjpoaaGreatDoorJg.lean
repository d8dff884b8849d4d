/-
  Formulas of a reader, rank by rank, at each level, walked.
-/
import Derived.Test.YtjhicgllofjpoaaGreatDoorJf
namespace Go.Proofs.YtjhicgllofjpoaaGreatDoor
open Go.RowKit

section
variable {xb rb b D : Nat} {st : St}
set_option maxHeartbeats 2000000 in
theorem ppref_no {d : Dq} (hA : RFC 126 (atomS d) D) (w : World) (h : PRd w xb rb b D st) (hsp : sp 4 st.hd = false) : Calls Tryz.prog 116 #[.pointer (some ⟨xb, 0, none⟩)] w (FmP xb rb b D (prefS d st) w) := by
  have hx := h.ltx
  have c0 := h.c0
  have H := Lib.hid h
  have HP := Lib.hid (fun (W : World) (hW : PRd W xb rb b D st) => hW.peek)
  have HS := Lib.hid (fun (W : World) (hW : PRd W xb rb b D st) => psign_no W hW hsp)
  have HA := Lib.hid hA
  have HR := Lib.hid (show prefS d st = atomS d st by unfold prefS; rw [if_neg (by rw [hsp]; simp)])
  have hf0 := field0
  have hf1 := field1
  have hf2 := field2
  clear h hsp hA
  go_enter Tryz.func116, Tryz.ntmps116
  have hne := World.new_ne w ⟨xb, 0, none⟩ c0
  go_wp2_with fail
  refine calls_gen (P := fun W => PRd W xb rb b D st ∧ Bx W w.heap.size 25 zc4 ∧ Fx (X2 xb rb) w W) ⟨H.out.alloc _, Bx.new w 25 zc4, (Fx.refl _ _).alloc _⟩ ?_
  rintro W ⟨hM, hB, hF⟩
  refine (HP.out W hM).mono ?_
  rintro e w1 ⟨rfl, hb1⟩
  have HM1 := Lib.hid (hM.below hb1)
  have HB1 := Lib.hid (hB.below hb1)
  have HF1 := Lib.hid (hF.on hb1)
  have hl1 := HB1.out.lt
  clear hM hB hF hb1
  go_wp2_with fail
  refine (HS.out w1 HM1.out).mono ?_
  rintro e w2 ⟨rfl, hb2⟩
  have HM2 := Lib.hid (HM1.out.below hb2)
  have HB2 := Lib.hid (HB1.out.below hb2)
  have HF2 := Lib.hid (HF1.out.on hb2)
  have hl2 := HB2.out.lt
  clear hb2
  go_wp2_with fail
  refine (HA.out xb rb b st w2 HM2.out).mono ?_
  rintro e w4 ⟨v4, rfl, hO4, hM4, hF4⟩
  have hB4 := HB2.out.fx hF4 (H.out.n2 (Nat.le_refl _))
  have HB4 := Lib.hid hB4
  have HM4 := Lib.hid hM4
  have HO4 := Lib.hid hO4
  have HF4 := Lib.hid (HF2.out.trans hF4)
  obtain ⟨b0, b1, b2, b3⟩ := Bx.cells4 hB4
  obtain ⟨y0, y1, y2, y3⟩ := Bx.frozen4 hB4
  have hl5 := hB4.lt
  clear hO4 hM4 hF4 hB4
  go_wp2
  obtain ⟨d0, d1, d2, d3⟩ := (Bx.set4 (x0 := .string v4.o) (x1 := .string v4.nm) (x2 := .slice v4.A v4.ll v4.cap) (x3 := .int .i64 v4.p) HB4.out).cells4
  rw [HR.out]
  refine bodyPost_ret (v := .agg #[.string v4.o, .string v4.nm, .slice v4.A v4.ll v4.cap, .int .i64 v4.p]) (by simp [results, Tryz.results116, go_sem, d0, d1, d2, d3]) rfl ⟨v4, rfl, ?_, ?_, ?_⟩
  · exact (HO4.out.set4 (.inl (by omega))).mono (by omega) (by simp)
  · exact HM4.out.set4 HB4.out (H.out.lo2)
  · exact HF4.out.set4 (.inl (Nat.le_refl _))
set_option maxHeartbeats 2000000 in
theorem ppref_yes {d : Dq} (hX : DFC 116 d.x D) (w : World) (h : PRd w xb rb b D st) (hsp : sp 4 st.hd = true) : Calls Tryz.prog 116 #[.pointer (some ⟨xb, 0, none⟩)] w (FmP xb rb b D (prefS d st) w) := by
  have hx := h.ltx
  have c0 := h.c0
  have H := Lib.hid h
  have HP := Lib.hid (fun (W : World) (hW : PRd W xb rb b D st) => hW.peek)
  have HS := Lib.hid (fun (W : World) (hW : PRd W xb rb b D st) => psign_yes W hW hsp)
  have HX := Lib.hid hX
  have HR := Lib.hid (show prefS d st = (unO st.hd.text st.hd.pos (d.x st.tl).1, (d.x st.tl).2) by unfold prefS; rw [if_pos hsp])
  have hf0 := field0
  have hf1 := field1
  have hf2 := field2
  clear h hsp hX
  go_enter Tryz.func116, Tryz.ntmps116
  have hne := World.new_ne w ⟨xb, 0, none⟩ c0
  go_wp2_with fail
  refine calls_gen (P := fun W => PRd W xb rb b D st ∧ Bx W w.heap.size 25 zc4 ∧ Fx (X2 xb rb) w W) ⟨H.out.alloc _, Bx.new w 25 zc4, (Fx.refl _ _).alloc _⟩ ?_
  rintro W ⟨hM, hB, hF⟩
  refine (HP.out W hM).mono ?_
  rintro e w1 ⟨rfl, hb1⟩
  have HM1 := Lib.hid (hM.below hb1)
  have HB1 := Lib.hid (hB.below hb1)
  have HF1 := Lib.hid (hF.on hb1)
  have hl1 := HB1.out.lt
  clear hM hB hF hb1
  go_wp2_with fail
  refine (HS.out w1 HM1.out).mono ?_
  rintro e w2 ⟨rfl, hM2, hF2⟩
  have HM2 := Lib.hid hM2
  have HB2 := Lib.hid (HB1.out.fx hF2 (H.out.n2 (Nat.le_refl _)))
  have HF2 := Lib.hid (HF1.out.trans hF2)
  have hl2 := HB2.out.lt
  clear hM2 hF2
  go_wp2_with fail
  refine (HX.out xb rb b _ w2 HM2.out).mono ?_
  rintro e w4 ⟨v4, rfl, hO4, hM4, hF4⟩
  have hz4 := hF4.size
  have hB4 := HB2.out.fx hF4 (H.out.n2 (Nat.le_refl _))
  have HB4 := Lib.hid hB4
  have HM4 := Lib.hid hM4
  have HO4 := Lib.hid hO4
  have HF4 := Lib.hid (HF2.out.trans hF4)
  obtain ⟨b0, b1, b2, b3⟩ := Bx.cells4 hB4
  obtain ⟨y0, y1, y2, y3⟩ := Bx.frozen4 hB4
  have hl5 := hB4.lt
  clear hO4 hM4 hF4 hB4
  go_wp2
  obtain ⟨d0, d1, d2, d3⟩ := ((Bx.set4 (x0 := .string ⟨st.hd.text.toArray⟩) (x1 := .string ⟨#[]⟩) (x2 := .slice (some ⟨w4.heap.size, 0, none⟩) 1 1) (x3 := .int .i64 (st.hd.pos : Int)) HB4.out).alloc (.cells #[.string v4.o, .string v4.nm, .slice v4.A v4.ll v4.cap, .int .i64 v4.p] 25)).cells4
  rw [HR.out]
  refine bodyPost_ret (v := .agg #[.string ⟨st.hd.text.toArray⟩, .string ⟨#[]⟩, .slice (some ⟨w4.heap.size, 0, none⟩) 1 1, .int .i64 (st.hd.pos : Int)]) (by simp [results, Tryz.results116, go_sem, d0, d1, d2, d3]) rfl ⟨⟨⟨st.hd.text.toArray⟩, ⟨#[]⟩, some ⟨w4.heap.size, 0, none⟩, 1, 1, (st.hd.pos : Int)⟩, rfl, ?_, ?_, ?_⟩
  · refine fo_un _ (((HO4.out.set4 (.inl (by omega))).alloc _).mono (by omega) (by simp)) ?_ (heap_new_at (by simp) _)
    unfold Rg
    simp
    omega
  · exact (HM4.out.set4 HB4.out (H.out.lo2)).alloc _
  · exact (HF4.out.set4 (.inl (Nat.le_refl _))).alloc _
theorem ppref_any {d : Dq} (hA : RFC 126 (atomS d) D) (hX : DFC 116 d.x D) : RFC 116 (prefS d) D := by
  intro xb rb b st w h
  cases hsp : sp 4 st.hd with
  | true => exact ppref_yes hX w h hsp
  | false => exact ppref_no hA w h hsp
set_option maxHeartbeats 1000000 in
theorem puntil_any {d : Dq} (hx : RFC 116 (prefS d) D) (hu : DFC 91 d.u D) : RFC 91 (untlS d) D := by
  intro xb rb b st w h
  have H := Lib.hid h
  have HG := Lib.hid (fun (W : World) (hW : PRd W xb rb b D st) => pright_ppref (k := 3) hx hu W hW)
  clear h hx hu
  go_enter Tryz.func91, Tryz.ntmps91
  go_wp2_with fail
  refine calls_gen (P := fun W => PRd W xb rb b D st ∧ Bx W w.heap.size 25 zc4 ∧ Fx (X2 xb rb) w W) ⟨H.out.alloc _, Bx.new w 25 zc4, (Fx.refl _ _).alloc _⟩ ?_
  rintro W ⟨hM, hB, hF⟩
  have hl := hB.lt
  refine (HG.out W hM).mono ?_
  rintro e w4 ⟨v4, rfl, hO4, hM4, hF4⟩
  have hB4 := hB.fx hF4 (H.out.n2 (Nat.le_refl _))
  have HB4 := Lib.hid hB4
  have HM4 := Lib.hid hM4
  have HO4 := Lib.hid hO4
  have HF4 := Lib.hid (hF.trans hF4)
  obtain ⟨b0, b1, b2, b3⟩ := Bx.cells4 hB4
  obtain ⟨y0, y1, y2, y3⟩ := Bx.frozen4 hB4
  have hl5 := hB4.lt
  clear hM hB hF hO4 hM4 hF4 hB4
  go_wp2
  obtain ⟨d0, d1, d2, d3⟩ := (Bx.set4 (x0 := .string v4.o) (x1 := .string v4.nm) (x2 := .slice v4.A v4.ll v4.cap) (x3 := .int .i64 v4.p) HB4.out).cells4
  refine bodyPost_ret (v := .agg #[.string v4.o, .string v4.nm, .slice v4.A v4.ll v4.cap, .int .i64 v4.p]) (by simp [results, Tryz.results91, go_sem, d0, d1, d2, d3]) rfl ⟨v4, rfl, ?_, ?_, ?_⟩
  · exact (HO4.out.set4 (.inl (by omega))).mono (by omega) (by simp)
  · exact HM4.out.set4 HB4.out (H.out.lo2)
  · exact HF4.out.set4 (.inl (Nat.le_refl _))
set_option maxHeartbeats 1000000 in
theorem pconj_any {d : Dq} (hr : Rok (untlS d)) (hu : RFC 91 (untlS d) D) : RFC 72 (conjS d) D := by
  intro xb rb b st w h
  have H := Lib.hid h
  have HG := Lib.hid (fun (W : World) (hW : PRd W xb rb b D st) => pleft_puntil (k := 2) hr hu W hW)
  clear h hr hu
  go_enter Tryz.func72, Tryz.ntmps72
  go_wp2_with fail
  refine calls_gen (P := fun W => PRd W xb rb b D st ∧ Bx W w.heap.size 25 zc4 ∧ Fx (X2 xb rb) w W) ⟨H.out.alloc _, Bx.new w 25 zc4, (Fx.refl _ _).alloc _⟩ ?_
  rintro W ⟨hM, hB, hF⟩
  have hl := hB.lt
  refine (HG.out W hM).mono ?_
  rintro e w4 ⟨v4, rfl, hO4, hM4, hF4⟩
  have hB4 := hB.fx hF4 (H.out.n2 (Nat.le_refl _))
  have HB4 := Lib.hid hB4
  have HM4 := Lib.hid hM4
  have HO4 := Lib.hid hO4
  have HF4 := Lib.hid (hF.trans hF4)
  obtain ⟨b0, b1, b2, b3⟩ := Bx.cells4 hB4
  obtain ⟨y0, y1, y2, y3⟩ := Bx.frozen4 hB4
  have hl5 := hB4.lt
  clear hM hB hF hO4 hM4 hF4 hB4
  go_wp2
  obtain ⟨d0, d1, d2, d3⟩ := (Bx.set4 (x0 := .string v4.o) (x1 := .string v4.nm) (x2 := .slice v4.A v4.ll v4.cap) (x3 := .int .i64 v4.p) HB4.out).cells4
  refine bodyPost_ret (v := .agg #[.string v4.o, .string v4.nm, .slice v4.A v4.ll v4.cap, .int .i64 v4.p]) (by simp [results, Tryz.results72, go_sem, d0, d1, d2, d3]) rfl ⟨v4, rfl, ?_, ?_, ?_⟩
  · exact (HO4.out.set4 (.inl (by omega))).mono (by omega) (by simp)
  · exact HM4.out.set4 HB4.out (H.out.lo2)
  · exact HF4.out.set4 (.inl (Nat.le_refl _))
set_option maxHeartbeats 1000000 in
theorem pdisj_any {d : Dq} (hr : Rok (conjS d)) (hc : RFC 72 (conjS d) D) : RFC 47 (disjS d) D := by
  intro xb rb b st w h
  have H := Lib.hid h
  have HG := Lib.hid (fun (W : World) (hW : PRd W xb rb b D st) => pleft_pconj (k := 1) hr hc W hW)
  clear h hr hc
  go_enter Tryz.func47, Tryz.ntmps47
  go_wp2_with fail
  refine calls_gen (P := fun W => PRd W xb rb b D st ∧ Bx W w.heap.size 25 zc4 ∧ Fx (X2 xb rb) w W) ⟨H.out.alloc _, Bx.new w 25 zc4, (Fx.refl _ _).alloc _⟩ ?_
  rintro W ⟨hM, hB, hF⟩
  have hl := hB.lt
  refine (HG.out W hM).mono ?_
  rintro e w4 ⟨v4, rfl, hO4, hM4, hF4⟩
  have hB4 := hB.fx hF4 (H.out.n2 (Nat.le_refl _))
  have HB4 := Lib.hid hB4
  have HM4 := Lib.hid hM4
  have HO4 := Lib.hid hO4
  have HF4 := Lib.hid (hF.trans hF4)
  obtain ⟨b0, b1, b2, b3⟩ := Bx.cells4 hB4
  obtain ⟨y0, y1, y2, y3⟩ := Bx.frozen4 hB4
  have hl5 := hB4.lt
  clear hM hB hF hO4 hM4 hF4 hB4
  go_wp2
  obtain ⟨d0, d1, d2, d3⟩ := (Bx.set4 (x0 := .string v4.o) (x1 := .string v4.nm) (x2 := .slice v4.A v4.ll v4.cap) (x3 := .int .i64 v4.p) HB4.out).cells4
  refine bodyPost_ret (v := .agg #[.string v4.o, .string v4.nm, .slice v4.A v4.ll v4.cap, .int .i64 v4.p]) (by simp [results, Tryz.results47, go_sem, d0, d1, d2, d3]) rfl ⟨v4, rfl, ?_, ?_, ?_⟩
  · exact (HO4.out.set4 (.inl (by omega))).mono (by omega) (by simp)
  · exact HM4.out.set4 HB4.out (H.out.lo2)
  · exact HF4.out.set4 (.inl (Nat.le_refl _))
set_option maxHeartbeats 1000000 in
theorem pform_any {d : Dq} (ho : RFC 47 (disjS d) D) (hf : DFC 25 d.f D) : RFC 25 (formS d) D := by
  intro xb rb b st w h
  have H := Lib.hid h
  have HG := Lib.hid (fun (W : World) (hW : PRd W xb rb b D st) => pright_pdisj (k := 0) ho hf W hW)
  clear h ho hf
  go_enter Tryz.func25, Tryz.ntmps25
  go_wp2_with fail
  refine calls_gen (P := fun W => PRd W xb rb b D st ∧ Bx W w.heap.size 25 zc4 ∧ Fx (X2 xb rb) w W) ⟨H.out.alloc _, Bx.new w 25 zc4, (Fx.refl _ _).alloc _⟩ ?_
  rintro W ⟨hM, hB, hF⟩
  have hl := hB.lt
  refine (HG.out W hM).mono ?_
  rintro e w4 ⟨v4, rfl, hO4, hM4, hF4⟩
  have hB4 := hB.fx hF4 (H.out.n2 (Nat.le_refl _))
  have HB4 := Lib.hid hB4
  have HM4 := Lib.hid hM4
  have HO4 := Lib.hid hO4
  have HF4 := Lib.hid (hF.trans hF4)
  obtain ⟨b0, b1, b2, b3⟩ := Bx.cells4 hB4
  obtain ⟨y0, y1, y2, y3⟩ := Bx.frozen4 hB4
  have hl5 := hB4.lt
  clear hM hB hF hO4 hM4 hF4 hB4
  go_wp2
  obtain ⟨d0, d1, d2, d3⟩ := (Bx.set4 (x0 := .string v4.o) (x1 := .string v4.nm) (x2 := .slice v4.A v4.ll v4.cap) (x3 := .int .i64 v4.p) HB4.out).cells4
  refine bodyPost_ret (v := .agg #[.string v4.o, .string v4.nm, .slice v4.A v4.ll v4.cap, .int .i64 v4.p]) (by simp [results, Tryz.results25, go_sem, d0, d1, d2, d3]) rfl ⟨v4, rfl, ?_, ?_, ?_⟩
  · exact (HO4.out.set4 (.inl (by omega))).mono (by omega) (by simp)
  · exact HM4.out.set4 HB4.out (H.out.lo2)
  · exact HF4.out.set4 (.inl (Nat.le_refl _))
structure DF3 (l : Nat) : Prop where
  f : DFC 25 (dq l).f l
  u : DFC 91 (dq l).u l
  x : DFC 116 (dq l).x l
theorem rfc_all {l : Nat} (h : DF3 l) : RFC 25 (formS (dq l)) l ∧ RFC 91 (untlS (dq l)) l ∧ RFC 116 (prefS (dq l)) l := by
  have r := rok_all (rok_dq l)
  have a := patom_any h.f
  have x := ppref_any a h.x
  have u := puntil_any x h.u
  have c := pconj_any r.u u
  have o := pdisj_any r.a c
  exact ⟨pform_any o h.f, u, x⟩
theorem df3 : ∀ l, DF3 l
  | 0 => ⟨fun _ _ _ _ w h => pdeeper_no w h _ _, fun _ _ _ _ w h => pdeeper_no w h _ _, fun _ _ _ _ w h => pdeeper_no w h _ _⟩
  | l + 1 => by
    obtain ⟨f, u, x⟩ := rfc_all (df3 l)
    have e : dq (l + 1) = ⟨formS (dq l), untlS (dq l), prefS (dq l)⟩ := by rw [dq]
    refine ⟨?_, ?_, ?_⟩ <;> rw [e]
    · exact pdeeper_pform f
    · exact pdeeper_puntil u
    · exact pdeeper_ppref x
/-- A formula, with so many levels to go down. -/
theorem form_any (l : Nat) : RFC 25 (formS (dq l)) l := (rfc_all (df3 l)).1
end
end Go.Proofs.YtjhicgllofjpoaaGreatDoor
