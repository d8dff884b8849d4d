/-
  Formulas of a reader, from what stands in parentheses to the loosest, walked.
-/
import Derived.Test.YtjhicgllofjpoaaGreatDoorJe
namespace Go.Proofs.YtjhicgllofjpoaaGreatDoor
open Go.RowKit

section
variable {xb rb b D : Nat} {st : St}
set_option maxHeartbeats 2000000 in
theorem pencl_any {d : Dq} (hD : DFC 25 d.f D) (q : Nat) (w : World) (h : PRd w xb rb b D st) : Calls Tryz.prog 130 #[.pointer (some ⟨xb, 0, none⟩), .int .i64 (q : Int)] w (FmP xb rb b D (enclS d q st) w) := by
  have H := Lib.hid h
  have HF := Lib.hid hD
  clear h hD
  go_enter Tryz.func130, Tryz.ntmps130
  go_wp2_with fail
  refine calls_gen (P := fun W => PRd W xb rb b D st ∧ Bx W w.heap.size 25 zc4 ∧ Fx (X2 xb rb) w W) ⟨H.out.alloc _, Bx.new w 25 zc4, (Fx.refl _ _).alloc _⟩ ?_
  rintro W ⟨hM, hB, hF⟩
  refine (HF.out xb rb b st W hM).mono ?_
  rintro e w1 ⟨v1, rfl, hO, hM1, hF1⟩
  have hs := hB.lt
  have hB1 := hB.fx hF1 (H.out.n2 (Nat.le_refl _))
  have hW1 := hF1.size
  have hs1 := hB1.lt
  have HB1 := Lib.hid hB1
  have HM1 := Lib.hid hM1
  have HO := Lib.hid hO
  have HF1 := Lib.hid (hF.trans hF1)
  have hnq : w.heap.size ≠ w1.heap.size := by omega
  clear hM hB hF hM1 hO hF1 hB1
  go_wp2_with fail
  refine calls_gen (P := fun W1 => PRd W1 xb rb b D (d.f st).2 ∧ Bx W1 w1.heap.size 25 v1.c ∧ Bx W1 w.heap.size 25 zc4 ∧ FO W1 (W.heap.size + 1) w1.heap.size (d.f st).1 v1 ∧ Fx (X2 xb rb) w W1 ∧ w1.heap.size < W1.heap.size) ⟨HM1.out.alloc _, Bx.new w1 25 v1.c, HB1.out.alloc _, HO.out.alloc _, HF1.out.alloc _, by simp⟩ ?_
  rintro W1 ⟨hM2, hE2, hB2, hO2, hF2, hz⟩
  refine (pwant_any ⟨#[41]⟩ W1 hM2).mono ?_
  rintro e w2 ⟨rfl, hM3, hF3⟩
  have hz2 := hF3.size
  have hB3 := hB2.fx hF3 (H.out.n2 (Nat.le_refl _))
  have hE3 := hE2.fx hF3 (H.out.n2 (by omega))
  have HB3 := Lib.hid hB3
  have HE3 := Lib.hid hE3
  have HO3 := Lib.hid (show FOS w2 (Sx W w1) (d.f st).1 v1 from (hO2.fx hF3 (fun j hj => H.out.n2 (by unfold Rg at hj; omega))).wide (fun j _ hj => by unfold Rg at hj; unfold Sx; omega))
  have HM3 := Lib.hid hM3
  have HF3 := Lib.hid (hF2.trans hF3)
  obtain ⟨e0, e1, e2, e3⟩ := Bx.cells4 hE3
  obtain ⟨x0, x1, x2, x3⟩ := Bx.frozen4 hE3
  obtain ⟨b0, b1, b2, b3⟩ := Bx.cells4 hB3
  obtain ⟨y0, y1, y2, y3⟩ := Bx.frozen4 hB3
  have hl3 := hB3.lt
  have hl4 := hE3.lt
  clear hM2 hE2 hB2 hO2 hF2 hM3 hF3 hB3 hE3
  go_wp2
  have hBx := HB3.out.far (p := ⟨w1.heap.size, 3, none⟩) hnq (.int .i64 (q : Int))
  obtain ⟨d0, d1, d2, d3⟩ := (Bx.set4 (x0 := .string v1.o) (x1 := .string v1.nm) (x2 := .slice v1.A v1.ll v1.cap) (x3 := .int .i64 (q : Int)) hBx).cells4
  refine bodyPost_ret (v := .agg #[.string v1.o, .string v1.nm, .slice v1.A v1.ll v1.cap, .int .i64 (q : Int)]) (by simp [results, Tryz.results130, go_sem, d0, d1, d2, d3]) rfl ⟨{ v1 with p := (q : Int) }, rfl, ?_, ?_, ?_⟩
  · exact FOS.mv q ((((HO3.out.setS (q := w1.heap.size) (by unfold Sx; omega) _).setS4 (by unfold Sx; omega)).wide (fun j hj hS => by unfold Sx at hS; unfold Rg; omega)))
  · exact (HM3.out.set HE3.out (by unfold RpT; decide) (by have := H.out.lo2; omega) _).set4 hBx (H.out.lo2)
  · exact (HF3.out.setCell (p := ⟨w1.heap.size, 3, none⟩) (.inl (by show w.heap.size ≤ w1.heap.size; omega)) _).set4 (.inl (Nat.le_refl _))
/-- What atom knows behind its first look. -/
structure Am (w W : World) (xb rb b D tb : Nat) (st : St) : Prop where
  m : PRd W xb rb b D st
  t : Bx W tb 135 [.int .i64 (st.hd.kind : Int), .string ⟨st.hd.text.toArray⟩, .int .i64 (st.hd.pos : Int)]
  r : Bx W w.heap.size 25 zc4
  f : Fx (X2 xb rb) w W
  lt : w.heap.size < tb
theorem Bx.cells3 {w : World} {q : Nat} {c0 c1 c2 : Value} {t : TypeId} (h : Bx w q t [c0, c1, c2]) : w.cell? ⟨q, 0, none⟩ = some c0 ∧ w.cell? ⟨q, 1, none⟩ = some c1 ∧ w.cell? ⟨q, 2, none⟩ = some c2 := ⟨h.cell 0, h.cell 1, h.cell 2⟩
theorem fo_leaf (w : World) (S : Nat → Prop) (op nm : List UInt8) (p : Nat) : FOS w S (some (.leaf op nm p)) ⟨⟨op.toArray⟩, ⟨nm.toArray⟩, none, 0, 0, (p : Int)⟩ := rfl
theorem fo_word (w : World) (S : Nat → Prop) {t x : List UInt8} (p : Nat) (h : (⟨t.toArray⟩ : ByteArray) = ⟨x.toArray⟩) : FOS w S (some (.leaf x [] p)) ⟨⟨t.toArray⟩, ⟨#[]⟩, none, 0, 0, (p : Int)⟩ := by rw [h]; rfl
theorem isT_to {t : Tok} {x : List UInt8} (h : isT t x = true) : (⟨t.text.toArray⟩ : ByteArray) = ⟨x.toArray⟩ := by rw [isT_text h]
/-- The look for a word that isn't there. -/
def SkN (w : World) (xb rb b D tb : Nat) (st : St) (x : ByteArray) : Prop := ∀ W, Am w W xb rb b D tb st → Calls Tryz.prog 90 #[.pointer (st.ptr rb), .string x] W fun e w' => e = .returned (.bool false) ∧ Am w w' xb rb b D tb st ∧ w'.cell? ⟨xb, 0, none⟩ = some (.pointer (st.ptr rb)) ∧ xb < w'.heap.size ∧ w'.cell? ⟨tb, 0, none⟩ = some (.int .i64 (st.hd.kind : Int)) ∧ w'.cell? ⟨tb, 1, none⟩ = some (.string ⟨st.hd.text.toArray⟩) ∧ w'.cell? ⟨tb, 2, none⟩ = some (.int .i64 (st.hd.pos : Int)) ∧ tb < w'.heap.size
theorem Am.below {w W W' : World} {tb : Nat} (h : Am w W xb rb b D tb st) (hb : Below W.heap.size W W') : Am w W' xb rb b D tb st := ⟨h.m.below hb, h.t.below hb, h.r.below hb, h.f.on hb, h.lt⟩
theorem skn {w : World} {tb : Nat} (x : ByteArray) (hi : isT st.hd x.data.toList = false) : SkN w xb rb b D tb st x := fun _ A =>
  (A.m.skip_no x hi).mono fun _ _ ⟨h1, h2⟩ => ⟨h1, A.below h2, (A.m.below h2).c0, (A.m.below h2).ltx, (A.t.below h2).cell 0, (A.t.below h2).cell 1, (A.t.below h2).cell 2, (A.t.below h2).lt⟩
set_option maxHeartbeats 2000000 in
theorem patom_k3 (d : Dq) (hk : st.hd.kind = 3) (w : World) (h : PRd w xb rb b D st) : Calls Tryz.prog 126 #[.pointer (some ⟨xb, 0, none⟩)] w (FmP xb rb b D (atomS d st) w) := by
  have hx := h.ltx
  have c0 := h.c0
  have H := Lib.hid h
  have HP := Lib.hid (fun (W : World) (hW : PRd W xb rb b D st) => hW.peek)
  have hf0 := field0
  have hf1 := field1
  have hf2 := field2
  have g1 : ((st.hd.kind : Int) == 3) = true := by rw [hk]; rfl
  have hk0 : st.hd.kind ≠ 0 := by omega
  have HTK := Lib.hid (fun (W : World) (hW : PRd W xb rb b D st) => hW.take_on hk0)
  have HR := Lib.hid (show atomS d st = (some (.leaf opLab st.hd.text st.hd.pos), st.tl) by unfold atomS; rw [if_pos hk])
  clear h hk hk0
  go_enter Tryz.func126, Tryz.ntmps126
  have hne := World.new_ne w ⟨xb, 0, none⟩ c0
  go_wp2_with fail
  refine calls_gen (P := fun W => PRd W xb rb b D st ∧ Bx W w.heap.size 25 zc4 ∧ Fx (X2 xb rb) w W) ⟨H.out.alloc _, Bx.new w 25 zc4, (Fx.refl _ _).alloc _⟩ ?_
  rintro W ⟨hM, hB, hF⟩
  refine (HP.out W hM).mono ?_
  rintro e w1 ⟨rfl, hb1⟩
  have hs1 := hB.lt
  have hz1 := hb1.size
  have A := Lib.hid (show Am w (w1.alloc (.cells #[.int .i64 (st.hd.kind : Int), .string ⟨st.hd.text.toArray⟩, .int .i64 (st.hd.pos : Int)] 135)) xb rb b D w1.heap.size st from ⟨(hM.below hb1).alloc _, Bx.new w1 135 [_, _, _], (hB.below hb1).alloc _, (hF.on hb1).alloc _, by omega⟩)
  have c0 := (hM.below hb1).c0
  have hx1 := (hM.below hb1).ltx
  clear hM hB hF hb1
  go_wp2_with fail
  refine (HTK.out _ A.out.m).mono ?_
  rintro e w3 ⟨rfl, hM3, hF3⟩
  · skip
    have hB3 := A.out.r.fx hF3 (H.out.n2 (Nat.le_refl _))
    have hT3 := A.out.t.fx hF3 (H.out.n2 (by have := A.out.lt; omega))
    have HB3 := Lib.hid hB3
    have HM3 := Lib.hid hM3
    have HF3 := Lib.hid (A.out.f.trans hF3)
    obtain ⟨t0, t1, t2⟩ := Bx.cells3 hT3
    obtain ⟨b0, b1, b2, b3⟩ := Bx.cells4 hB3
    obtain ⟨y0, y1, y2, y3⟩ := Bx.frozen4 hB3
    have hl3 := hB3.lt
    have hl4 := hT3.lt
    clear hM3 hF3 hB3 hT3
    go_wp2
    obtain ⟨d0, d1, d2, d3⟩ := (Bx.set4 (x0 := (.string ⟨#[108, 97, 98, 101, 108]⟩)) (x1 := (.string ⟨st.hd.text.toArray⟩)) (x2 := .slice none 0 0) (x3 := .int .i64 (st.hd.pos : Int)) HB3.out).cells4
    rw [HR.out]
    refine bodyPost_ret (v := .agg #[(.string ⟨#[108, 97, 98, 101, 108]⟩), (.string ⟨st.hd.text.toArray⟩), .slice none 0 0, .int .i64 (st.hd.pos : Int)]) (by simp [results, Tryz.results126, go_sem, d0, d1, d2, d3]) rfl ⟨⟨⟨#[108, 97, 98, 101, 108]⟩, ⟨st.hd.text.toArray⟩, none, 0, 0, (st.hd.pos : Int)⟩, rfl, ?_, ?_, ?_⟩
    · exact fo_leaf _ _ opLab st.hd.text st.hd.pos
    · exact HM3.out.set4 HB3.out (H.out.lo2)
    · exact HF3.out.set4 (.inl (Nat.le_refl _))
set_option maxHeartbeats 2000000 in
theorem patom_tt (d : Dq) (hk : st.hd.kind ≠ 3) (hi : isT st.hd opTrue = true) (w : World) (h : PRd w xb rb b D st) : Calls Tryz.prog 126 #[.pointer (some ⟨xb, 0, none⟩)] w (FmP xb rb b D (atomS d st) w) := by
  have hx := h.ltx
  have c0 := h.c0
  have H := Lib.hid h
  have HP := Lib.hid (fun (W : World) (hW : PRd W xb rb b D st) => hW.peek)
  have hf0 := field0
  have hf1 := field1
  have hf2 := field2
  have g1 : ((st.hd.kind : Int) == 3) = false := by rw [beq_eq_false_iff_ne]; omega
  have HTK := Lib.hid (fun (W : World) (hW : PRd W xb rb b D st) => hW.skip_yes ⟨#[116, 114, 117, 101]⟩ hi)
  have HR := Lib.hid (show atomS d st = (some (.leaf opTrue [] st.hd.pos), st.tl) by unfold atomS; rw [if_neg hk, if_pos hi])
  have HX := Lib.hid (isT_to hi)
  clear h hk hi
  go_enter Tryz.func126, Tryz.ntmps126
  have hne := World.new_ne w ⟨xb, 0, none⟩ c0
  go_wp2_with fail
  refine calls_gen (P := fun W => PRd W xb rb b D st ∧ Bx W w.heap.size 25 zc4 ∧ Fx (X2 xb rb) w W) ⟨H.out.alloc _, Bx.new w 25 zc4, (Fx.refl _ _).alloc _⟩ ?_
  rintro W ⟨hM, hB, hF⟩
  refine (HP.out W hM).mono ?_
  rintro e w1 ⟨rfl, hb1⟩
  have hs1 := hB.lt
  have hz1 := hb1.size
  have A := Lib.hid (show Am w (w1.alloc (.cells #[.int .i64 (st.hd.kind : Int), .string ⟨st.hd.text.toArray⟩, .int .i64 (st.hd.pos : Int)] 135)) xb rb b D w1.heap.size st from ⟨(hM.below hb1).alloc _, Bx.new w1 135 [_, _, _], (hB.below hb1).alloc _, (hF.on hb1).alloc _, by omega⟩)
  have c0 := (hM.below hb1).c0
  have hx1 := (hM.below hb1).ltx
  clear hM hB hF hb1
  go_wp2_with fail
  refine (HTK.out _ A.out.m).mono ?_
  rintro e w3 ⟨rfl, hM3, hF3⟩
  · skip
    have hB3 := A.out.r.fx hF3 (H.out.n2 (Nat.le_refl _))
    have hT3 := A.out.t.fx hF3 (H.out.n2 (by have := A.out.lt; omega))
    have HB3 := Lib.hid hB3
    have HM3 := Lib.hid hM3
    have HF3 := Lib.hid (A.out.f.trans hF3)
    obtain ⟨t0, t1, t2⟩ := Bx.cells3 hT3
    obtain ⟨b0, b1, b2, b3⟩ := Bx.cells4 hB3
    obtain ⟨y0, y1, y2, y3⟩ := Bx.frozen4 hB3
    have hl3 := hB3.lt
    have hl4 := hT3.lt
    clear hM3 hF3 hB3 hT3
    go_wp2
    obtain ⟨d0, d1, d2, d3⟩ := (Bx.set4 (x0 := (.string ⟨st.hd.text.toArray⟩)) (x1 := (.string ⟨#[]⟩)) (x2 := .slice none 0 0) (x3 := .int .i64 (st.hd.pos : Int)) HB3.out).cells4
    rw [HR.out]
    refine bodyPost_ret (v := .agg #[(.string ⟨st.hd.text.toArray⟩), (.string ⟨#[]⟩), .slice none 0 0, .int .i64 (st.hd.pos : Int)]) (by simp [results, Tryz.results126, go_sem, d0, d1, d2, d3]) rfl ⟨⟨⟨st.hd.text.toArray⟩, ⟨#[]⟩, none, 0, 0, (st.hd.pos : Int)⟩, rfl, ?_, ?_, ?_⟩
    · exact fo_word _ _ st.hd.pos HX.out
    · exact HM3.out.set4 HB3.out (H.out.lo2)
    · exact HF3.out.set4 (.inl (Nat.le_refl _))
set_option maxHeartbeats 2000000 in
theorem patom_ff (d : Dq) (hk : st.hd.kind ≠ 3) (ht : isT st.hd opTrue = false) (hi : isT st.hd opFalse = true) (w : World) (h : PRd w xb rb b D st) : Calls Tryz.prog 126 #[.pointer (some ⟨xb, 0, none⟩)] w (FmP xb rb b D (atomS d st) w) := by
  have hx := h.ltx
  have c0 := h.c0
  have H := Lib.hid h
  have HP := Lib.hid (fun (W : World) (hW : PRd W xb rb b D st) => hW.peek)
  have hf0 := field0
  have hf1 := field1
  have hf2 := field2
  have g1 : ((st.hd.kind : Int) == 3) = false := by rw [beq_eq_false_iff_ne]; omega
  have HN0 := Lib.hid (fun tb : Nat => skn (w := w) (xb := xb) (rb := rb) (b := b) (D := D) (tb := tb) (st := st) ⟨#[116, 114, 117, 101]⟩ ht)
  have HTK := Lib.hid (fun (W : World) (hW : PRd W xb rb b D st) => hW.skip_yes ⟨#[102, 97, 108, 115, 101]⟩ hi)
  have HR := Lib.hid (show atomS d st = (some (.leaf opFalse [] st.hd.pos), st.tl) by unfold atomS; rw [if_neg hk, if_neg (by rw [ht]; simp), if_pos hi])
  have HX := Lib.hid (isT_to hi)
  clear h hk hi ht
  go_enter Tryz.func126, Tryz.ntmps126
  have hne := World.new_ne w ⟨xb, 0, none⟩ c0
  go_wp2_with fail
  refine calls_gen (P := fun W => PRd W xb rb b D st ∧ Bx W w.heap.size 25 zc4 ∧ Fx (X2 xb rb) w W) ⟨H.out.alloc _, Bx.new w 25 zc4, (Fx.refl _ _).alloc _⟩ ?_
  rintro W ⟨hM, hB, hF⟩
  refine (HP.out W hM).mono ?_
  rintro e w1 ⟨rfl, hb1⟩
  have hs1 := hB.lt
  have hz1 := hb1.size
  have A := Lib.hid (show Am w (w1.alloc (.cells #[.int .i64 (st.hd.kind : Int), .string ⟨st.hd.text.toArray⟩, .int .i64 (st.hd.pos : Int)] 135)) xb rb b D w1.heap.size st from ⟨(hM.below hb1).alloc _, Bx.new w1 135 [_, _, _], (hB.below hb1).alloc _, (hF.on hb1).alloc _, by omega⟩)
  have c0 := (hM.below hb1).c0
  have hx1 := (hM.below hb1).ltx
  clear hM hB hF hb1
  go_wp2_with fail
  refine (HN0.out _ _ A.out).mono ?_
  rintro e wn0 ⟨rfl, A', c0, hx1, t0, t1, t2, hlt⟩
  replace A := Lib.hid A'
  clear A'
  go_wp2_with fail
  refine (HTK.out _ A.out.m).mono ?_
  rintro e w3 ⟨rfl, hM3, hF3⟩
  · skip
    have hB3 := A.out.r.fx hF3 (H.out.n2 (Nat.le_refl _))
    have hT3 := A.out.t.fx hF3 (H.out.n2 (by have := A.out.lt; omega))
    have HB3 := Lib.hid hB3
    have HM3 := Lib.hid hM3
    have HF3 := Lib.hid (A.out.f.trans hF3)
    obtain ⟨t0, t1, t2⟩ := Bx.cells3 hT3
    obtain ⟨b0, b1, b2, b3⟩ := Bx.cells4 hB3
    obtain ⟨y0, y1, y2, y3⟩ := Bx.frozen4 hB3
    have hl3 := hB3.lt
    have hl4 := hT3.lt
    clear hM3 hF3 hB3 hT3
    go_wp2
    obtain ⟨d0, d1, d2, d3⟩ := (Bx.set4 (x0 := (.string ⟨st.hd.text.toArray⟩)) (x1 := (.string ⟨#[]⟩)) (x2 := .slice none 0 0) (x3 := .int .i64 (st.hd.pos : Int)) HB3.out).cells4
    rw [HR.out]
    refine bodyPost_ret (v := .agg #[(.string ⟨st.hd.text.toArray⟩), (.string ⟨#[]⟩), .slice none 0 0, .int .i64 (st.hd.pos : Int)]) (by simp [results, Tryz.results126, go_sem, d0, d1, d2, d3]) rfl ⟨⟨⟨st.hd.text.toArray⟩, ⟨#[]⟩, none, 0, 0, (st.hd.pos : Int)⟩, rfl, ?_, ?_, ?_⟩
    · exact fo_word _ _ st.hd.pos HX.out
    · exact HM3.out.set4 HB3.out (H.out.lo2)
    · exact HF3.out.set4 (.inl (Nat.le_refl _))
set_option maxHeartbeats 2000000 in
theorem patom_lp (d : Dq) (hD : DFC 25 d.f D) (hk : st.hd.kind ≠ 3) (ht : isT st.hd opTrue = false) (hf : isT st.hd opFalse = false) (hi : isT st.hd [40] = true) (w : World) (h : PRd w xb rb b D st) : Calls Tryz.prog 126 #[.pointer (some ⟨xb, 0, none⟩)] w (FmP xb rb b D (atomS d st) w) := by
  have hx := h.ltx
  have c0 := h.c0
  have H := Lib.hid h
  have HP := Lib.hid (fun (W : World) (hW : PRd W xb rb b D st) => hW.peek)
  have hf0 := field0
  have hf1 := field1
  have hf2 := field2
  have g1 : ((st.hd.kind : Int) == 3) = false := by rw [beq_eq_false_iff_ne]; omega
  have HN0 := Lib.hid (fun tb : Nat => skn (w := w) (xb := xb) (rb := rb) (b := b) (D := D) (tb := tb) (st := st) ⟨#[116, 114, 117, 101]⟩ ht)
  have HN1 := Lib.hid (fun tb : Nat => skn (w := w) (xb := xb) (rb := rb) (b := b) (D := D) (tb := tb) (st := st) ⟨#[102, 97, 108, 115, 101]⟩ hf)
  have HTK := Lib.hid (fun (W : World) (hW : PRd W xb rb b D st) => hW.skip_yes ⟨#[40]⟩ hi)
  have HR := Lib.hid (show atomS d st = enclS d st.hd.pos st.tl by unfold atomS; rw [if_neg hk, if_neg (by rw [ht]; simp), if_neg (by rw [hf]; simp), if_pos hi])
  have HEN := Lib.hid (fun (W : World) (hW : PRd W xb rb b D st.tl) => pencl_any (d := d) hD st.hd.pos W hW)
  clear h hk hi ht hf hD
  go_enter Tryz.func126, Tryz.ntmps126
  have hne := World.new_ne w ⟨xb, 0, none⟩ c0
  go_wp2_with fail
  refine calls_gen (P := fun W => PRd W xb rb b D st ∧ Bx W w.heap.size 25 zc4 ∧ Fx (X2 xb rb) w W) ⟨H.out.alloc _, Bx.new w 25 zc4, (Fx.refl _ _).alloc _⟩ ?_
  rintro W ⟨hM, hB, hF⟩
  refine (HP.out W hM).mono ?_
  rintro e w1 ⟨rfl, hb1⟩
  have hs1 := hB.lt
  have hz1 := hb1.size
  have A := Lib.hid (show Am w (w1.alloc (.cells #[.int .i64 (st.hd.kind : Int), .string ⟨st.hd.text.toArray⟩, .int .i64 (st.hd.pos : Int)] 135)) xb rb b D w1.heap.size st from ⟨(hM.below hb1).alloc _, Bx.new w1 135 [_, _, _], (hB.below hb1).alloc _, (hF.on hb1).alloc _, by omega⟩)
  have c0 := (hM.below hb1).c0
  have hx1 := (hM.below hb1).ltx
  clear hM hB hF hb1
  go_wp2_with fail
  refine (HN0.out _ _ A.out).mono ?_
  rintro e wn0 ⟨rfl, A', c0, hx1, t0, t1, t2, hlt⟩
  replace A := Lib.hid A'
  clear A'
  go_wp2_with fail
  refine (HN1.out _ _ A.out).mono ?_
  rintro e wn1 ⟨rfl, A', c0, hx1, t0, t1, t2, hlt⟩
  replace A := Lib.hid A'
  clear A'
  go_wp2_with fail
  refine (HTK.out _ A.out.m).mono ?_
  rintro e w3 ⟨rfl, hM3, hF3⟩
  have hT3 := A.out.t.fx hF3 (H.out.n2 (by have := A.out.lt; omega))
  obtain ⟨t0, t1, t2⟩ := Bx.cells3 hT3
  have hl4 := hT3.lt
  have HB3 := Lib.hid (A.out.r.fx hF3 (H.out.n2 (Nat.le_refl _)))
  have HM3 := Lib.hid hM3
  have HF3 := Lib.hid (A.out.f.trans hF3)
  have hl3 := HB3.out.lt
  clear hM3 hF3 hT3
  go_wp2_with fail
  refine (HEN.out w3 HM3.out).mono ?_
  rintro e w4 ⟨v4, rfl, hO4, hM4, hF4⟩
  have hB4 := HB3.out.fx hF4 (H.out.n2 (Nat.le_refl _))
  have HB4 := Lib.hid hB4
  have HM4 := Lib.hid hM4
  have HO4 := Lib.hid hO4
  have HF4 := Lib.hid (HF3.out.trans hF4)
  obtain ⟨b0, b1, b2, b3⟩ := Bx.cells4 hB4
  obtain ⟨y0, y1, y2, y3⟩ := Bx.frozen4 hB4
  have hl5 := hB4.lt
  clear hO4 hM4 hF4 hB4
  go_wp2
  obtain ⟨d0, d1, d2, d3⟩ := (Bx.set4 (x0 := .string v4.o) (x1 := .string v4.nm) (x2 := .slice v4.A v4.ll v4.cap) (x3 := .int .i64 v4.p) HB4.out).cells4
  rw [HR.out]
  refine bodyPost_ret (v := .agg #[.string v4.o, .string v4.nm, .slice v4.A v4.ll v4.cap, .int .i64 v4.p]) (by simp [results, Tryz.results126, go_sem, d0, d1, d2, d3]) rfl ⟨v4, rfl, ?_, ?_, ?_⟩
  · exact (HO4.out.set4 (.inl (by omega))).mono (by omega) (by simp)
  · exact HM4.out.set4 HB4.out (H.out.lo2)
  · exact HF4.out.set4 (.inl (Nat.le_refl _))
set_option maxHeartbeats 2000000 in
theorem patom_no (d : Dq) (hk : st.hd.kind ≠ 3) (ht : isT st.hd opTrue = false) (hf : isT st.hd opFalse = false) (hi : isT st.hd [40] = false) (w : World) (h : PRd w xb rb b D st) : Calls Tryz.prog 126 #[.pointer (some ⟨xb, 0, none⟩)] w (FmP xb rb b D (atomS d st) w) := by
  have hx := h.ltx
  have c0 := h.c0
  have H := Lib.hid h
  have HP := Lib.hid (fun (W : World) (hW : PRd W xb rb b D st) => hW.peek)
  have hf0 := field0
  have hf1 := field1
  have hf2 := field2
  have g1 : ((st.hd.kind : Int) == 3) = false := by rw [beq_eq_false_iff_ne]; omega
  have HN0 := Lib.hid (fun tb : Nat => skn (w := w) (xb := xb) (rb := rb) (b := b) (D := D) (tb := tb) (st := st) ⟨#[116, 114, 117, 101]⟩ ht)
  have HN1 := Lib.hid (fun tb : Nat => skn (w := w) (xb := xb) (rb := rb) (b := b) (D := D) (tb := tb) (st := st) ⟨#[102, 97, 108, 115, 101]⟩ hf)
  have HN2 := Lib.hid (fun tb : Nat => skn (w := w) (xb := xb) (rb := rb) (b := b) (D := D) (tb := tb) (st := st) ⟨#[40]⟩ hi)
  have HR := Lib.hid (show atomS d st = (none, st.fail 20) by unfold atomS; rw [if_neg hk, if_neg (by rw [ht]; simp), if_neg (by rw [hf]; simp), if_neg (by rw [hi]; simp)])
  clear h hk hi ht hf
  go_enter Tryz.func126, Tryz.ntmps126
  have hne := World.new_ne w ⟨xb, 0, none⟩ c0
  go_wp2_with fail
  refine calls_gen (P := fun W => PRd W xb rb b D st ∧ Bx W w.heap.size 25 zc4 ∧ Fx (X2 xb rb) w W) ⟨H.out.alloc _, Bx.new w 25 zc4, (Fx.refl _ _).alloc _⟩ ?_
  rintro W ⟨hM, hB, hF⟩
  refine (HP.out W hM).mono ?_
  rintro e w1 ⟨rfl, hb1⟩
  have hs1 := hB.lt
  have hz1 := hb1.size
  have A := Lib.hid (show Am w (w1.alloc (.cells #[.int .i64 (st.hd.kind : Int), .string ⟨st.hd.text.toArray⟩, .int .i64 (st.hd.pos : Int)] 135)) xb rb b D w1.heap.size st from ⟨(hM.below hb1).alloc _, Bx.new w1 135 [_, _, _], (hB.below hb1).alloc _, (hF.on hb1).alloc _, by omega⟩)
  have c0 := (hM.below hb1).c0
  have hx1 := (hM.below hb1).ltx
  clear hM hB hF hb1
  go_wp2_with fail
  refine (HN0.out _ _ A.out).mono ?_
  rintro e wn0 ⟨rfl, A', c0, hx1, t0, t1, t2, hlt⟩
  replace A := Lib.hid A'
  clear A'
  go_wp2_with fail
  refine (HN1.out _ _ A.out).mono ?_
  rintro e wn1 ⟨rfl, A', c0, hx1, t0, t1, t2, hlt⟩
  replace A := Lib.hid A'
  clear A'
  go_wp2_with fail
  refine (HN2.out _ _ A.out).mono ?_
  rintro e wn2 ⟨rfl, A', c0, hx1, t0, t1, t2, hlt⟩
  replace A := Lib.hid A'
  clear A'
  go_wp2_with fail
  refine (prefuse_any _ A.out.m).mono ?_
  rintro e w3 ⟨rfl, hM3, hF3⟩
  have hB3 := A.out.r.fx hF3 (H.out.n2 (Nat.le_refl _))
  have HB3 := Lib.hid hB3
  have HM3 := Lib.hid hM3
  have HF3 := Lib.hid (A.out.f.trans hF3)
  obtain ⟨b0, b1, b2, b3⟩ := Bx.cells4 hB3
  obtain ⟨y0, y1, y2, y3⟩ := Bx.frozen4 hB3
  have hl3 := hB3.lt
  clear hM3 hF3 hB3
  go_wp2
  obtain ⟨d0, d1, d2, d3⟩ := (Bx.set4 (x0 := .string ⟨#[]⟩) (x1 := .string ⟨#[]⟩) (x2 := .slice none 0 0) (x3 := .int .i64 0) HB3.out).cells4
  rw [HR.out]
  refine bodyPost_ret (v := .agg #[.string ⟨#[]⟩, .string ⟨#[]⟩, .slice none 0 0, .int .i64 0]) (by simp [results, Tryz.results126, go_sem, d0, d1, d2, d3]) rfl ⟨fv0, rfl, trivial, ?_, ?_⟩
  · exact HM3.out.set4 HB3.out (H.out.lo2)
  · exact HF3.out.set4 (.inl (Nat.le_refl _))
theorem patom_any {d : Dq} (hD : DFC 25 d.f D) : RFC 126 (atomS d) D := by
  intro xb rb b st w h
  by_cases hk : st.hd.kind = 3
  · exact patom_k3 d hk w h
  cases ht : isT st.hd opTrue with
  | true => exact patom_tt d hk ht w h
  | false =>
    cases hf : isT st.hd opFalse with
    | true => exact patom_ff d hk ht hf w h
    | false =>
      cases hi : isT st.hd [40] with
      | true => exact patom_lp d hD hk ht hf hi w h
      | false => exact patom_no d hk ht hf hi w h
end
end Go.Proofs.YtjhicgllofjpoaaGreatDoor
