/-
  toTheRight, walked.
-/
import Derived.Test.YtjhicgllofjpoaaGreatDoorJc
import Derived.Deep.LoopGhost
namespace Go.Proofs.YtjhicgllofjpoaaGreatDoor
open Go.RowKit

section
variable {xb rb b D : Nat} {st : St}
/-- From behind the result's box on, but for the box of what has been read. -/
def Sx (W w1 : World) (j : Nat) : Prop := W.heap.size + 1 ≤ j ∧ j ≠ w1.heap.size
theorem sx_top {W w1 w3 : World} (h1 : W.heap.size ≤ w1.heap.size) (h2 : w1.heap.size < w3.heap.size) {j : Nat} (hj : w3.heap.size ≤ j) : Sx W w1 j := by unfold Sx; omega
theorem arm1 {w W w1 w2 w3 : World} {L R : Option Fo} {v1 v3 : FV} (H : PRd w xb rb b D st) (hs : w.heap.size < W.heap.size) (hW1 : W.heap.size ≤ w1.heap.size) (hz : w1.heap.size < w2.heap.size) (HE3 : Bx w2 w1.heap.size 25 v1.c) (HB3 : Bx w2 w.heap.size 25 zc4) (HO3 : FOS w2 (Sx W w1) L v1) (HF3 : Fx (X2 xb rb) w w2)
    (hO4 : FO w3 (w2.drew.heap.size + 1) w3.heap.size R v3) (hF4 : Fx (X2 xb rb) w2.drew w3) : Bx w3 w1.heap.size 25 v1.c ∧ Bx w3 w.heap.size 25 zc4 ∧ FOS w3 (Sx W w1) L v1 ∧ FOS w3 (Sx W w1) R v3 ∧ Fx (X2 xb rb) w w3 ∧ w2.heap.size ≤ w3.heap.size := by
  have hz3 : w2.heap.size ≤ w3.heap.size := hF4.size
  have e1 : w2.drew.heap.size = w2.heap.size := rfl
  refine ⟨Bx.fx (w := w2.drew) HE3 hF4 (H.n2 (by omega)), Bx.fx (w := w2.drew) HB3 hF4 (H.n2 (Nat.le_refl _)), HO3.drew.fx hF4 (fun j hj => H.n2 (by unfold Sx at hj; omega)), hO4.wide (fun j _ hj => ?_), HF3.drew.trans hF4, hz3⟩
  unfold Rg at hj
  unfold Sx
  omega
set_option maxHeartbeats 4000000 in
set_option maxRecDepth 100000 in
theorem pright_pdisj {k : Nat} {F B : St → RF} (hF : RFC 47 F D) (hB : DFC 25 B D) (w : World) (h : PRd w xb rb b D st) :
    Calls Tryz.prog 46 #[.pointer (some ⟨xb, 0, none⟩), .int .i64 (k : Int), .func (.func 47) #[.pointer (some ⟨xb, 0, none⟩)] #[], .func (.func 25) #[.pointer (some ⟨xb, 0, none⟩)] #[]] w (FmP xb rb b D (rightS k F B st) w) := by
  have H := Lib.hid h
  have HF := Lib.hid hF
  have HD := Lib.hid hB
  clear h hF hB
  go_enter Tryz.func46, Tryz.ntmps46
  go_wp2_with fail
  refine calls_gen (P := fun W => PRd W xb rb b D st ∧ Bx W w.heap.size 25 zc4 ∧ Fx (X2 xb rb) w W) ⟨H.out.alloc _, Bx.new w 25 zc4, (Fx.refl _ _).alloc _⟩ ?_
  rintro W ⟨hM, hB, hF⟩
  refine (HF.out xb rb b st W hM).mono ?_
  rintro e w1 ⟨v1, rfl, hO, hM1, hF1⟩
  have hs := hB.lt
  have hB1 := hB.fx hF1 (H.out.n2 (Nat.le_refl _))
  have hW1 := hF1.size
  have hs1 := hB1.lt
  have HB1 := Lib.hid hB1
  have HM1 := Lib.hid hM1
  have HO := Lib.hid hO
  have HF1 := Lib.hid (hF.trans hF1)
  have hnq : w.heap.size ≠ w1.heap.size := by omega
  clear hM hB hF hM1 hO hF1 hB1
  go_wp2_with fail
  refine calls_gen (P := fun W1 => PRd W1 xb rb b D (F st).2 ∧ Bx W1 w1.heap.size 25 v1.c ∧ Bx W1 w.heap.size 25 zc4 ∧ FO W1 (W.heap.size + 1) w1.heap.size (F st).1 v1 ∧ Fx (X2 xb rb) w W1 ∧ w1.heap.size < W1.heap.size) ⟨HM1.out.alloc _, Bx.new w1 25 v1.c, HB1.out.alloc _, HO.out.alloc _, HF1.out.alloc _, by simp⟩ ?_
  rintro W1 ⟨hM2, hE2, hB2, hO2, hF2, hz⟩
  cases hsp : sp k (F st).2.hd with
  | false =>
    have HR := Lib.hid (show rightS k F B st = F st by unfold rightS; rw [if_neg (by rw [hsp]; simp)])
    refine (psign_no W1 hM2 hsp).mono ?_
    rintro e w2 ⟨rfl, hb⟩
    have hB3 := hB2.below hb
    have hE3 := hE2.below hb
    obtain ⟨e0, e1, e2, e3⟩ := Bx.cells4 hE3
    obtain ⟨y0, y1, y2, y3⟩ := Bx.frozen4 hB3
    obtain ⟨b0, b1, b2, b3⟩ := Bx.cells4 hB3
    have hl3 := hB3.lt
    have hl4 := hE3.lt
    have HB3 := Lib.hid hB3
    have HO3 := Lib.hid (hO2.below hb)
    have HM3 := Lib.hid (hM2.below hb)
    have HF3 := Lib.hid (hF2.on hb)
    clear hM2 hE2 hB2 hO2 hF2 hb hB3 hE3 hsp
    go_wp2
    obtain ⟨d0, d1, d2, d3⟩ := (Bx.set4 (x0 := .string v1.o) (x1 := .string v1.nm) (x2 := .slice v1.A v1.ll v1.cap) (x3 := .int .i64 v1.p) HB3.out).cells4
    rw [HR.out]
    refine bodyPost_ret (v := .agg #[.string v1.o, .string v1.nm, .slice v1.A v1.ll v1.cap, .int .i64 v1.p]) (by simp [results, Tryz.results46, go_sem, d0, d1, d2, d3]) rfl ⟨v1, rfl, ?_, ?_, ?_⟩
    · exact (HO3.out.set4 (.inl (by omega))).mono (by omega) (by simp; omega)
    · exact HM3.out.set4 HB3.out (H.out.lo2)
    · exact HF3.out.set4 (.inl (Nat.le_refl _))
  | true =>
    have HR := Lib.hid (show rightS k F B st = (binO (F st).2.hd.text (F st).1 (B (F st).2.tl).1, (B (F st).2.tl).2) by unfold rightS; rw [if_pos hsp])
    refine (psign_yes W1 hM2 hsp).mono ?_
    rintro e w2 ⟨rfl, hM3, hF3⟩
    have hz2 := hF3.size
    have hB3 := hB2.fx hF3 (H.out.n2 (Nat.le_refl _))
    have hE3 := hE2.fx hF3 (H.out.n2 (by omega))
    obtain ⟨e0, e1, e2, e3⟩ := Bx.cells4 hE3
    have hl4 := hE3.lt
    have HB3 := Lib.hid hB3
    have HE3 := Lib.hid hE3
    have HO3 := Lib.hid (show FOS w2 (Sx W w1) (F st).1 v1 from (hO2.fx hF3 (fun j hj => by have := H.out.n2 (q := j) (by unfold Rg at hj; omega); exact this)).wide (fun j _ hj => by unfold Rg at hj; unfold Sx; omega))
    have HM3 := Lib.hid hM3
    have HF3 := Lib.hid (hF2.trans hF3)
    clear hM2 hE2 hB2 hO2 hF2 hM3 hF3 hB3 hE3 hsp
    go_wp2_with fail
    go_region_law (first
      | (go_simp
         go_at_call 70
         refine (HD.out xb rb b _ _ HM3.out.drew).mono ?_
         rintro e w3 ⟨v3, rfl, hO4, hM4, hF4⟩
         obtain ⟨hE4, hB4, hO5, hO6, hF5, hz3⟩ := arm1 H.out hs hW1 (by omega) HE3.out HB3.out HO3.out HF3.out hO4 hF4
         have HE4 := Lib.hid hE4
         have HB4 := Lib.hid hB4
         have HO4 := Lib.hid hO5
         have HO5 := Lib.hid hO6
         have HM4 := Lib.hid hM4
         have HF4 := Lib.hid hF5
         obtain ⟨e0, e1, e2, e3⟩ := Bx.cells4 hE4
         have hl5 := hE4.lt
         clear hO4 hM4 hF4 hE4 hB4 hO5 hO6 hF5)
      | (go_simp
         go_at_call 69
         refine (pjoined_any (S := Sx W w1) _ w3 HO4.out HO5.out (fun j hj => sx_top hW1 hl5 hj)).mono ?_
         rintro e w4 ⟨v4, rfl, hO6, hb4⟩
         have hz4 := hb4.size
         have hE5 := HE4.out.below hb4
         have hB5 := HB4.out.below hb4
         have HE5 := Lib.hid hE5
         have HB5 := Lib.hid hB5
         have HO6 := Lib.hid hO6
         have HM5 := Lib.hid (HM4.out.below hb4)
         have HF5 := Lib.hid (HF4.out.on hb4)
         obtain ⟨e0, e1, e2, e3⟩ := Bx.cells4 hE5
         obtain ⟨x0, x1, x2, x3⟩ := Bx.frozen4 hE5
         obtain ⟨b0, b1, b2, b3⟩ := Bx.cells4 hB5
         obtain ⟨y0, y1, y2, y3⟩ := Bx.frozen4 hB5
         have hl6 := hE5.lt
         have hl7 := hB5.lt
         clear hO6 hb4 hE5 hB5))
    all_goals
      have hE6 := Bx.set4 (x0 := .string v4.o) (x1 := .string v4.nm) (x2 := .slice v4.A v4.ll v4.cap) (x3 := .int .i64 v4.p) HE5.out
      have hB6 := Bx.far4 (x0 := .string v4.o) (x1 := .string v4.nm) (x2 := .slice v4.A v4.ll v4.cap) (x3 := .int .i64 v4.p) HB5.out hnq
      have HM6 := Lib.hid (HM5.out.set4 (x0 := .string v4.o) (x1 := .string v4.nm) (x2 := .slice v4.A v4.ll v4.cap) (x3 := .int .i64 v4.p) HE5.out (by have := H.out.lo2; omega))
      have HO7 := Lib.hid (HO6.out.setS4 (q := w1.heap.size) (x0 := .string v4.o) (x1 := .string v4.nm) (x2 := .slice v4.A v4.ll v4.cap) (x3 := .int .i64 v4.p) (by unfold Sx; omega))
      have HF6 := Lib.hid (HF5.out.set4 (q := w1.heap.size) (x0 := .string v4.o) (x1 := .string v4.nm) (x2 := .slice v4.A v4.ll v4.cap) (x3 := .int .i64 v4.p) (.inl (by omega)))
      clear e0 e1 e2 e3 x0 x1 x2 x3 b0 b1 b2 b3 y0 y1 y2 y3
      obtain ⟨e0, e1, e2, e3⟩ := Bx.cells4 hE6
      obtain ⟨x0, x1, x2, x3⟩ := Bx.frozen4 HE5.out
      obtain ⟨f0, f1, f2, f3⟩ := Bx.cells4 HE5.out
      obtain ⟨b0, b1, b2, b3⟩ := Bx.cells4 hB6
      obtain ⟨y0, y1, y2, y3⟩ := Bx.frozen4 hB6
      have HB6 := Lib.hid hB6
      clear hE6 hB6
      go_wp2
      obtain ⟨d0, d1, d2, d3⟩ := (Bx.set4 (x0 := .string v4.o) (x1 := .string v4.nm) (x2 := .slice v4.A v4.ll v4.cap) (x3 := .int .i64 v4.p) HB6.out).cells4
      rw [HR.out]
      refine bodyPost_ret (v := .agg #[.string v4.o, .string v4.nm, .slice v4.A v4.ll v4.cap, .int .i64 v4.p]) (by simp [results, Tryz.results46, go_sem, d0, d1, d2, d3]) rfl ⟨v4, rfl, ?_, ?_, ?_⟩
      · exact (HO7.out.setS4 (by unfold Sx; omega)).wide (fun j hj hS => by unfold Sx at hS; unfold Rg; omega)
      · exact HM6.out.set4 HB6.out (H.out.lo2)
      · exact HF6.out.set4 (.inl (Nat.le_refl _))
set_option maxHeartbeats 4000000 in
set_option maxRecDepth 100000 in
theorem pright_ppref {k : Nat} {F B : St → RF} (hF : RFC 116 F D) (hB : DFC 91 B D) (w : World) (h : PRd w xb rb b D st) :
    Calls Tryz.prog 46 #[.pointer (some ⟨xb, 0, none⟩), .int .i64 (k : Int), .func (.func 116) #[.pointer (some ⟨xb, 0, none⟩)] #[], .func (.func 91) #[.pointer (some ⟨xb, 0, none⟩)] #[]] w (FmP xb rb b D (rightS k F B st) w) := by
  have H := Lib.hid h
  have HF := Lib.hid hF
  have HD := Lib.hid hB
  clear h hF hB
  go_enter Tryz.func46, Tryz.ntmps46
  go_wp2_with fail
  refine calls_gen (P := fun W => PRd W xb rb b D st ∧ Bx W w.heap.size 25 zc4 ∧ Fx (X2 xb rb) w W) ⟨H.out.alloc _, Bx.new w 25 zc4, (Fx.refl _ _).alloc _⟩ ?_
  rintro W ⟨hM, hB, hF⟩
  refine (HF.out xb rb b st W hM).mono ?_
  rintro e w1 ⟨v1, rfl, hO, hM1, hF1⟩
  have hs := hB.lt
  have hB1 := hB.fx hF1 (H.out.n2 (Nat.le_refl _))
  have hW1 := hF1.size
  have hs1 := hB1.lt
  have HB1 := Lib.hid hB1
  have HM1 := Lib.hid hM1
  have HO := Lib.hid hO
  have HF1 := Lib.hid (hF.trans hF1)
  have hnq : w.heap.size ≠ w1.heap.size := by omega
  clear hM hB hF hM1 hO hF1 hB1
  go_wp2_with fail
  refine calls_gen (P := fun W1 => PRd W1 xb rb b D (F st).2 ∧ Bx W1 w1.heap.size 25 v1.c ∧ Bx W1 w.heap.size 25 zc4 ∧ FO W1 (W.heap.size + 1) w1.heap.size (F st).1 v1 ∧ Fx (X2 xb rb) w W1 ∧ w1.heap.size < W1.heap.size) ⟨HM1.out.alloc _, Bx.new w1 25 v1.c, HB1.out.alloc _, HO.out.alloc _, HF1.out.alloc _, by simp⟩ ?_
  rintro W1 ⟨hM2, hE2, hB2, hO2, hF2, hz⟩
  cases hsp : sp k (F st).2.hd with
  | false =>
    have HR := Lib.hid (show rightS k F B st = F st by unfold rightS; rw [if_neg (by rw [hsp]; simp)])
    refine (psign_no W1 hM2 hsp).mono ?_
    rintro e w2 ⟨rfl, hb⟩
    have hB3 := hB2.below hb
    have hE3 := hE2.below hb
    obtain ⟨e0, e1, e2, e3⟩ := Bx.cells4 hE3
    obtain ⟨y0, y1, y2, y3⟩ := Bx.frozen4 hB3
    obtain ⟨b0, b1, b2, b3⟩ := Bx.cells4 hB3
    have hl3 := hB3.lt
    have hl4 := hE3.lt
    have HB3 := Lib.hid hB3
    have HO3 := Lib.hid (hO2.below hb)
    have HM3 := Lib.hid (hM2.below hb)
    have HF3 := Lib.hid (hF2.on hb)
    clear hM2 hE2 hB2 hO2 hF2 hb hB3 hE3 hsp
    go_wp2
    obtain ⟨d0, d1, d2, d3⟩ := (Bx.set4 (x0 := .string v1.o) (x1 := .string v1.nm) (x2 := .slice v1.A v1.ll v1.cap) (x3 := .int .i64 v1.p) HB3.out).cells4
    rw [HR.out]
    refine bodyPost_ret (v := .agg #[.string v1.o, .string v1.nm, .slice v1.A v1.ll v1.cap, .int .i64 v1.p]) (by simp [results, Tryz.results46, go_sem, d0, d1, d2, d3]) rfl ⟨v1, rfl, ?_, ?_, ?_⟩
    · exact (HO3.out.set4 (.inl (by omega))).mono (by omega) (by simp; omega)
    · exact HM3.out.set4 HB3.out (H.out.lo2)
    · exact HF3.out.set4 (.inl (Nat.le_refl _))
  | true =>
    have HR := Lib.hid (show rightS k F B st = (binO (F st).2.hd.text (F st).1 (B (F st).2.tl).1, (B (F st).2.tl).2) by unfold rightS; rw [if_pos hsp])
    refine (psign_yes W1 hM2 hsp).mono ?_
    rintro e w2 ⟨rfl, hM3, hF3⟩
    have hz2 := hF3.size
    have hB3 := hB2.fx hF3 (H.out.n2 (Nat.le_refl _))
    have hE3 := hE2.fx hF3 (H.out.n2 (by omega))
    obtain ⟨e0, e1, e2, e3⟩ := Bx.cells4 hE3
    have hl4 := hE3.lt
    have HB3 := Lib.hid hB3
    have HE3 := Lib.hid hE3
    have HO3 := Lib.hid (show FOS w2 (Sx W w1) (F st).1 v1 from (hO2.fx hF3 (fun j hj => by have := H.out.n2 (q := j) (by unfold Rg at hj; omega); exact this)).wide (fun j _ hj => by unfold Rg at hj; unfold Sx; omega))
    have HM3 := Lib.hid hM3
    have HF3 := Lib.hid (hF2.trans hF3)
    clear hM2 hE2 hB2 hO2 hF2 hM3 hF3 hB3 hE3 hsp
    go_wp2_with fail
    go_region_law (first
      | (go_simp
         go_at_call 70
         refine (HD.out xb rb b _ _ HM3.out.drew).mono ?_
         rintro e w3 ⟨v3, rfl, hO4, hM4, hF4⟩
         obtain ⟨hE4, hB4, hO5, hO6, hF5, hz3⟩ := arm1 H.out hs hW1 (by omega) HE3.out HB3.out HO3.out HF3.out hO4 hF4
         have HE4 := Lib.hid hE4
         have HB4 := Lib.hid hB4
         have HO4 := Lib.hid hO5
         have HO5 := Lib.hid hO6
         have HM4 := Lib.hid hM4
         have HF4 := Lib.hid hF5
         obtain ⟨e0, e1, e2, e3⟩ := Bx.cells4 hE4
         have hl5 := hE4.lt
         clear hO4 hM4 hF4 hE4 hB4 hO5 hO6 hF5)
      | (go_simp
         go_at_call 69
         refine (pjoined_any (S := Sx W w1) _ w3 HO4.out HO5.out (fun j hj => sx_top hW1 hl5 hj)).mono ?_
         rintro e w4 ⟨v4, rfl, hO6, hb4⟩
         have hz4 := hb4.size
         have hE5 := HE4.out.below hb4
         have hB5 := HB4.out.below hb4
         have HE5 := Lib.hid hE5
         have HB5 := Lib.hid hB5
         have HO6 := Lib.hid hO6
         have HM5 := Lib.hid (HM4.out.below hb4)
         have HF5 := Lib.hid (HF4.out.on hb4)
         obtain ⟨e0, e1, e2, e3⟩ := Bx.cells4 hE5
         obtain ⟨x0, x1, x2, x3⟩ := Bx.frozen4 hE5
         obtain ⟨b0, b1, b2, b3⟩ := Bx.cells4 hB5
         obtain ⟨y0, y1, y2, y3⟩ := Bx.frozen4 hB5
         have hl6 := hE5.lt
         have hl7 := hB5.lt
         clear hO6 hb4 hE5 hB5))
    all_goals
      have hE6 := Bx.set4 (x0 := .string v4.o) (x1 := .string v4.nm) (x2 := .slice v4.A v4.ll v4.cap) (x3 := .int .i64 v4.p) HE5.out
      have hB6 := Bx.far4 (x0 := .string v4.o) (x1 := .string v4.nm) (x2 := .slice v4.A v4.ll v4.cap) (x3 := .int .i64 v4.p) HB5.out hnq
      have HM6 := Lib.hid (HM5.out.set4 (x0 := .string v4.o) (x1 := .string v4.nm) (x2 := .slice v4.A v4.ll v4.cap) (x3 := .int .i64 v4.p) HE5.out (by have := H.out.lo2; omega))
      have HO7 := Lib.hid (HO6.out.setS4 (q := w1.heap.size) (x0 := .string v4.o) (x1 := .string v4.nm) (x2 := .slice v4.A v4.ll v4.cap) (x3 := .int .i64 v4.p) (by unfold Sx; omega))
      have HF6 := Lib.hid (HF5.out.set4 (q := w1.heap.size) (x0 := .string v4.o) (x1 := .string v4.nm) (x2 := .slice v4.A v4.ll v4.cap) (x3 := .int .i64 v4.p) (.inl (by omega)))
      clear e0 e1 e2 e3 x0 x1 x2 x3 b0 b1 b2 b3 y0 y1 y2 y3
      obtain ⟨e0, e1, e2, e3⟩ := Bx.cells4 hE6
      obtain ⟨x0, x1, x2, x3⟩ := Bx.frozen4 HE5.out
      obtain ⟨f0, f1, f2, f3⟩ := Bx.cells4 HE5.out
      obtain ⟨b0, b1, b2, b3⟩ := Bx.cells4 hB6
      obtain ⟨y0, y1, y2, y3⟩ := Bx.frozen4 hB6
      have HB6 := Lib.hid hB6
      clear hE6 hB6
      go_wp2
      obtain ⟨d0, d1, d2, d3⟩ := (Bx.set4 (x0 := .string v4.o) (x1 := .string v4.nm) (x2 := .slice v4.A v4.ll v4.cap) (x3 := .int .i64 v4.p) HB6.out).cells4
      rw [HR.out]
      refine bodyPost_ret (v := .agg #[.string v4.o, .string v4.nm, .slice v4.A v4.ll v4.cap, .int .i64 v4.p]) (by simp [results, Tryz.results46, go_sem, d0, d1, d2, d3]) rfl ⟨v4, rfl, ?_, ?_, ?_⟩
      · exact (HO7.out.setS4 (by unfold Sx; omega)).wide (fun j hj hS => by unfold Sx at hS; unfold Rg; omega)
      · exact HM6.out.set4 HB6.out (H.out.lo2)
      · exact HF6.out.set4 (.inl (Nat.le_refl _))
end
end Go.Proofs.YtjhicgllofjpoaaGreatDoor
