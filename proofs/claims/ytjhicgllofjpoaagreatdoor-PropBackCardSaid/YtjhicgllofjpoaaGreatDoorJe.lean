/-
  toTheLeft, walked.
-/
import Derived.Test.YtjhicgllofjpoaaGreatDoorJd
import Derived.Deep.LoopGhost
namespace Go.Proofs.YtjhicgllofjpoaaGreatDoor
open Go.RowKit

section
variable {xb rb b D : Nat} {st : St}
/-- What the rounds of a chain to the left keep. -/
def LfRel (xb rb b D k : Nat) (F : St → RF) (tot : RF) (w W w1 : World) (gk : Nat) (opv okv : Value) (wr : World) : Prop :=
  ∃ (r : RF) (v : FV), tot = leftF k F r.2.len r ∧ FOS wr (Sx W w1) r.1 v ∧ Bx wr w1.heap.size 25 v.c ∧ Bx wr w.heap.size 25 zc4 ∧ Fx (X2 xb rb) w wr ∧ gk = r.2.len ∧
    ((sp k r.2.hd = true ∧ opv = .string ⟨r.2.hd.text.toArray⟩ ∧ okv = .bool true ∧ PRd wr xb rb b D r.2.tl) ∨ (sp k r.2.hd = false ∧ opv = .string ⟨#[]⟩ ∧ okv = .bool false ∧ PRd wr xb rb b D r.2))
set_option maxHeartbeats 4000000 in
set_option maxRecDepth 100000 in
theorem pleft_pconj {k : Nat} {F : St → RF} (hR : Rok F) (hF : RFC 72 F D) (w : World) (h : PRd w xb rb b D st) :
    Calls Tryz.prog 71 #[.pointer (some ⟨xb, 0, none⟩), .int .i64 (k : Int), .func (.func 72) #[.pointer (some ⟨xb, 0, none⟩)] #[]] w (FmP xb rb b D (leftS k F st) w) := by
  have H := Lib.hid h
  have HF := Lib.hid hF
  have HRK := Lib.hid hR
  obtain ⟨tot, htot⟩ : ∃ tot, tot = leftS k F st := ⟨_, rfl⟩
  rw [← htot]
  have HT := Lib.hid htot
  clear h hF hR htot
  go_enter Tryz.func71, Tryz.ntmps71
  go_wp2_with fail
  refine calls_gen (P := fun W => PRd W xb rb b D st ∧ Bx W w.heap.size 25 zc4 ∧ Fx (X2 xb rb) w W) ⟨H.out.alloc _, Bx.new w 25 zc4, (Fx.refl _ _).alloc _⟩ ?_
  rintro W ⟨hM, hB, hF⟩
  refine (HF.out xb rb b st W hM).mono ?_
  rintro e w1 ⟨v1, rfl, hO, hM1, hF1⟩
  have hs := hB.lt
  have hB1 := hB.fx hF1 (H.out.n2 (Nat.le_refl _))
  have hW1 := hF1.size
  have hs1 := hB1.lt
  have HB1 := Lib.hid hB1
  have HM1 := Lib.hid hM1
  have HO := Lib.hid hO
  have HF1 := Lib.hid (hF.trans hF1)
  have hnq : w.heap.size ≠ w1.heap.size := by omega
  clear hM hB hF hM1 hO hF1 hB1
  go_wp2_with fail
  refine calls_gen (P := fun W1 => PRd W1 xb rb b D (F st).2 ∧ Bx W1 w1.heap.size 25 v1.c ∧ Bx W1 w.heap.size 25 zc4 ∧ FO W1 (W.heap.size + 1) w1.heap.size (F st).1 v1 ∧ Fx (X2 xb rb) w W1 ∧ w1.heap.size < W1.heap.size) ⟨HM1.out.alloc _, Bx.new w1 25 v1.c, HB1.out.alloc _, HO.out.alloc _, HF1.out.alloc _, by simp⟩ ?_
  rintro W1 ⟨hM2, hE2, hB2, hO2, hF2, hz⟩
  have HREL : Hid (∀ (e : Ending) (w2 : World) (opv okv : Value), (sp k (F st).2.hd = true ∧ opv = .string ⟨(F st).2.hd.text.toArray⟩ ∧ okv = .bool true ∧ PRd w2 xb rb b D (F st).2.tl ∨ sp k (F st).2.hd = false ∧ opv = .string ⟨#[]⟩ ∧ okv = .bool false ∧ PRd w2 xb rb b D (F st).2) → Fx (X2 xb rb) W1 w2 → LfRel xb rb b D k F tot w W w1 (F st).2.len opv okv w2) := Lib.hid (fun _ w2 opv okv h1 h2 =>
    ⟨F st, v1, HT.out, (hO2.fx h2 (fun j hj => H.out.n2 (by unfold Rg at hj; omega))).wide (fun j _ hj => by unfold Rg at hj; unfold Sx; omega), hE2.fx h2 (H.out.n2 (by omega)), hB2.fx h2 (H.out.n2 (Nat.le_refl _)), hF2.trans h2, rfl, h1⟩)
  obtain ⟨opv, okv, hok, hcall⟩ : ∃ (o : ByteArray) (q : Bool), (q = sp k (F st).2.hd) ∧ Calls Tryz.prog 68 #[.pointer (some ⟨xb, 0, none⟩), .int .i64 (k : Int)] W1 (fun e w' => e = .returned (.tuple #[.string o, .bool q]) ∧ LfRel xb rb b D k F tot w W w1 (F st).2.len (.string o) (.bool q) w') := by
    cases hsp : sp k (F st).2.hd with
    | true => exact ⟨_, true, rfl, (psign_yes W1 hM2 hsp).mono fun e w' ⟨h1, h2, h3⟩ => ⟨h1, HREL.out e w' _ _ (.inl ⟨hsp, rfl, rfl, h2⟩) h3⟩⟩
    | false => exact ⟨_, false, rfl, (psign_no W1 hM2 hsp).mono fun e w' ⟨h1, h2⟩ => ⟨h1, HREL.out e w' _ _ (.inr ⟨hsp, rfl, rfl, hM2.below h2⟩) (Fx.of h2)⟩⟩
  refine hcall.mono ?_
  rintro e w2 ⟨rfl, hr0⟩
  have HR0 := Lib.hid hr0
  clear hM2 hE2 hB2 hO2 hF2 hcall hr0 HREL hok
  go_wp2
  go_loopg [8, 9] (F st).2.len (fun gk a c wr => LfRel xb rb b D k F tot w W w1 gk a c wr)
  case atStart => exact HR0.out
  case round =>
    clear HR0
    obtain ⟨r, v, htot, hO, hE, hB, hF, rfl, hc⟩ := hrel
    have hl4 := hE.lt
    have HTT := Lib.hid htot
    have HE3 := Lib.hid hE
    have HB3 := Lib.hid hB
    have HO3 := Lib.hid hO
    have HF3 := Lib.hid hF
    rcases hc with ⟨hsp, rfl, rfl, hM⟩ | ⟨hsp, rfl, rfl, hM⟩
    · have HG := Lib.hid (left_go (r := r) HRK.out hsp)
      have HM3 := Lib.hid hM
      obtain ⟨e0, e1, e2, e3⟩ := Bx.cells4 hE
      clear htot hO hE hB hF hM hsp
      go_wp2_with fail
      go_region_law (first
        | (go_simp
           go_at_call 72
           refine (HF.out xb rb b _ _ HM3.out.drew).mono ?_
           rintro e w3 ⟨v3, rfl, hO4, hM4, hF4⟩
           obtain ⟨hE4, hB4, hO5, hO6, hF5, hz3⟩ := arm1 H.out hs hW1 hl4 HE3.out HB3.out HO3.out HF3.out hO4 hF4
           have HE4 := Lib.hid hE4
           have HB4 := Lib.hid hB4
           have HO4 := Lib.hid hO5
           have HO5 := Lib.hid hO6
           have HM4 := Lib.hid hM4
           have HF4 := Lib.hid hF5
           obtain ⟨e0, e1, e2, e3⟩ := Bx.cells4 hE4
           have hl5 := hE4.lt
           clear hO4 hM4 hF4 hE4 hB4 hO5 hO6 hF5)
        | (go_simp
           go_at_call 69
           refine (pjoined_any (S := Sx W w1) _ w3 HO4.out HO5.out (fun j hj => sx_top hW1 hl5 hj)).mono ?_
           rintro e w4 ⟨v4, rfl, hO6, hb4⟩
           have hz4 := hb4.size
           have hE5 := HE4.out.below hb4
           have HE5 := Lib.hid hE5
           have HB5 := Lib.hid (HB4.out.below hb4)
           have HO6 := Lib.hid hO6
           have HM5 := Lib.hid (HM4.out.below hb4)
           have HF5 := Lib.hid (HF4.out.on hb4)
           obtain ⟨e0, e1, e2, e3⟩ := Bx.cells4 hE5
           obtain ⟨x0, x1, x2, x3⟩ := Bx.frozen4 hE5
           have hl6 := hE5.lt
           clear hO6 hb4 hE5))
      all_goals
        go_wp2_with fail
        have HE6 := Lib.hid (Bx.set4 (x0 := .string v4.o) (x1 := .string v4.nm) (x2 := .slice v4.A v4.ll v4.cap) (x3 := .int .i64 v4.p) HE5.out)
        have HB6 := Lib.hid (Bx.far4 (x0 := .string v4.o) (x1 := .string v4.nm) (x2 := .slice v4.A v4.ll v4.cap) (x3 := .int .i64 v4.p) HB5.out hnq)
        have HM6 := Lib.hid (HM5.out.set4 (x0 := .string v4.o) (x1 := .string v4.nm) (x2 := .slice v4.A v4.ll v4.cap) (x3 := .int .i64 v4.p) HE5.out (by have := H.out.lo2; omega))
        have HO7 := Lib.hid (HO6.out.setS4 (q := w1.heap.size) (x0 := .string v4.o) (x1 := .string v4.nm) (x2 := .slice v4.A v4.ll v4.cap) (x3 := .int .i64 v4.p) (by unfold Sx; omega))
        have HF6 := Lib.hid (HF5.out.set4 (q := w1.heap.size) (x0 := .string v4.o) (x1 := .string v4.nm) (x2 := .slice v4.A v4.ll v4.cap) (x3 := .int .i64 v4.p) (.inl (by omega)))
        refine calls_gen (P := fun W5 => Bx W5 w1.heap.size 25 v4.c ∧ Bx W5 w.heap.size 25 zc4 ∧ PRd W5 xb rb b D (F r.2.tl).2 ∧ FOS W5 (Sx W w1) (binO r.2.hd.text r.1 (F r.2.tl).1) v4 ∧ Fx (X2 xb rb) w W5) ⟨HE6.out, HB6.out, HM6.out, HO7.out, HF6.out⟩ ?_
        rintro W5 ⟨hE, hB, hM, hO, hF⟩
        have HREL : Hid (∀ (w2 : World) (opv okv : Value), (sp k (F r.2.tl).2.hd = true ∧ opv = .string ⟨(F r.2.tl).2.hd.text.toArray⟩ ∧ okv = .bool true ∧ PRd w2 xb rb b D (F r.2.tl).2.tl ∨ sp k (F r.2.tl).2.hd = false ∧ opv = .string ⟨#[]⟩ ∧ okv = .bool false ∧ PRd w2 xb rb b D (F r.2.tl).2) → Fx (X2 xb rb) W5 w2 → LfRel xb rb b D k F tot w W w1 (F r.2.tl).2.len opv okv w2) := Lib.hid (fun w2 opv okv h1 h2 =>
          ⟨(binO r.2.hd.text r.1 (F r.2.tl).1, (F r.2.tl).2), v4, HTT.out.trans HG.out.1, hO.fx h2 (fun j hj => H.out.n2 (by unfold Sx at hj; omega)), hE.fx h2 (H.out.n2 (by omega)), hB.fx h2 (H.out.n2 (Nat.le_refl _)), hF.trans h2, rfl, h1⟩)
        obtain ⟨opv, okv, hcall⟩ : ∃ (o : ByteArray) (q : Bool), Calls Tryz.prog 68 #[.pointer (some ⟨xb, 0, none⟩), .int .i64 (k : Int)] W5 (fun e w' => e = .returned (.tuple #[.string o, .bool q]) ∧ LfRel xb rb b D k F tot w W w1 (F r.2.tl).2.len (.string o) (.bool q) w') := by
          cases hsp : sp k (F r.2.tl).2.hd with
          | true => exact ⟨_, true, (psign_yes W5 hM hsp).mono fun e w' ⟨h1, h2, h3⟩ => ⟨h1, HREL.out w' _ _ (.inl ⟨hsp, rfl, rfl, h2⟩) h3⟩⟩
          | false => exact ⟨_, false, (psign_no W5 hM hsp).mono fun e w' ⟨h1, h2⟩ => ⟨h1, HREL.out w' _ _ (.inr ⟨hsp, rfl, rfl, hM.below h2⟩) (Fx.of h2)⟩⟩
        refine hcall.mono ?_
        rintro e w6 ⟨rfl, hr6⟩
        have HR6 := Lib.hid hr6
        clear hE hB hM hO hF hcall hr6 HREL
        go_wp2
        go_roundg (F r.2.tl).2.len
        case measure => exact HG.out.2
        case rel => exact HR6.out
    · have HT2 := Lib.hid (show tot = r by rw [htot, left_stop hsp])
      obtain ⟨e0, e1, e2, e3⟩ := Bx.cells4 hE
      obtain ⟨y0, y1, y2, y3⟩ := Bx.frozen4 hB
      obtain ⟨b0, b1, b2, b3⟩ := Bx.cells4 hB
      have hl3 := hB.lt
      have HM3 := Lib.hid hM
      clear htot hO hE hB hF hM hsp
      go_wp2
      obtain ⟨d0, d1, d2, d3⟩ := (Bx.set4 (x0 := .string v.o) (x1 := .string v.nm) (x2 := .slice v.A v.ll v.cap) (x3 := .int .i64 v.p) HB3.out).cells4
      rw [HT2.out]
      refine bodyPost_ret (v := .agg #[.string v.o, .string v.nm, .slice v.A v.ll v.cap, .int .i64 v.p]) (by simp [results, Tryz.results71, go_sem, d0, d1, d2, d3]) rfl ⟨v, rfl, ?_, ?_, ?_⟩
      · exact (HO3.out.setS4 (by unfold Sx; omega)).wide (fun j hj hS => by unfold Sx at hS; unfold Rg; omega)
      · exact HM3.out.set4 HB3.out (H.out.lo2)
      · exact HF3.out.set4 (.inl (Nat.le_refl _))
set_option maxHeartbeats 4000000 in
set_option maxRecDepth 100000 in
theorem pleft_puntil {k : Nat} {F : St → RF} (hR : Rok F) (hF : RFC 91 F D) (w : World) (h : PRd w xb rb b D st) :
    Calls Tryz.prog 71 #[.pointer (some ⟨xb, 0, none⟩), .int .i64 (k : Int), .func (.func 91) #[.pointer (some ⟨xb, 0, none⟩)] #[]] w (FmP xb rb b D (leftS k F st) w) := by
  have H := Lib.hid h
  have HF := Lib.hid hF
  have HRK := Lib.hid hR
  obtain ⟨tot, htot⟩ : ∃ tot, tot = leftS k F st := ⟨_, rfl⟩
  rw [← htot]
  have HT := Lib.hid htot
  clear h hF hR htot
  go_enter Tryz.func71, Tryz.ntmps71
  go_wp2_with fail
  refine calls_gen (P := fun W => PRd W xb rb b D st ∧ Bx W w.heap.size 25 zc4 ∧ Fx (X2 xb rb) w W) ⟨H.out.alloc _, Bx.new w 25 zc4, (Fx.refl _ _).alloc _⟩ ?_
  rintro W ⟨hM, hB, hF⟩
  refine (HF.out xb rb b st W hM).mono ?_
  rintro e w1 ⟨v1, rfl, hO, hM1, hF1⟩
  have hs := hB.lt
  have hB1 := hB.fx hF1 (H.out.n2 (Nat.le_refl _))
  have hW1 := hF1.size
  have hs1 := hB1.lt
  have HB1 := Lib.hid hB1
  have HM1 := Lib.hid hM1
  have HO := Lib.hid hO
  have HF1 := Lib.hid (hF.trans hF1)
  have hnq : w.heap.size ≠ w1.heap.size := by omega
  clear hM hB hF hM1 hO hF1 hB1
  go_wp2_with fail
  refine calls_gen (P := fun W1 => PRd W1 xb rb b D (F st).2 ∧ Bx W1 w1.heap.size 25 v1.c ∧ Bx W1 w.heap.size 25 zc4 ∧ FO W1 (W.heap.size + 1) w1.heap.size (F st).1 v1 ∧ Fx (X2 xb rb) w W1 ∧ w1.heap.size < W1.heap.size) ⟨HM1.out.alloc _, Bx.new w1 25 v1.c, HB1.out.alloc _, HO.out.alloc _, HF1.out.alloc _, by simp⟩ ?_
  rintro W1 ⟨hM2, hE2, hB2, hO2, hF2, hz⟩
  have HREL : Hid (∀ (e : Ending) (w2 : World) (opv okv : Value), (sp k (F st).2.hd = true ∧ opv = .string ⟨(F st).2.hd.text.toArray⟩ ∧ okv = .bool true ∧ PRd w2 xb rb b D (F st).2.tl ∨ sp k (F st).2.hd = false ∧ opv = .string ⟨#[]⟩ ∧ okv = .bool false ∧ PRd w2 xb rb b D (F st).2) → Fx (X2 xb rb) W1 w2 → LfRel xb rb b D k F tot w W w1 (F st).2.len opv okv w2) := Lib.hid (fun _ w2 opv okv h1 h2 =>
    ⟨F st, v1, HT.out, (hO2.fx h2 (fun j hj => H.out.n2 (by unfold Rg at hj; omega))).wide (fun j _ hj => by unfold Rg at hj; unfold Sx; omega), hE2.fx h2 (H.out.n2 (by omega)), hB2.fx h2 (H.out.n2 (Nat.le_refl _)), hF2.trans h2, rfl, h1⟩)
  obtain ⟨opv, okv, hok, hcall⟩ : ∃ (o : ByteArray) (q : Bool), (q = sp k (F st).2.hd) ∧ Calls Tryz.prog 68 #[.pointer (some ⟨xb, 0, none⟩), .int .i64 (k : Int)] W1 (fun e w' => e = .returned (.tuple #[.string o, .bool q]) ∧ LfRel xb rb b D k F tot w W w1 (F st).2.len (.string o) (.bool q) w') := by
    cases hsp : sp k (F st).2.hd with
    | true => exact ⟨_, true, rfl, (psign_yes W1 hM2 hsp).mono fun e w' ⟨h1, h2, h3⟩ => ⟨h1, HREL.out e w' _ _ (.inl ⟨hsp, rfl, rfl, h2⟩) h3⟩⟩
    | false => exact ⟨_, false, rfl, (psign_no W1 hM2 hsp).mono fun e w' ⟨h1, h2⟩ => ⟨h1, HREL.out e w' _ _ (.inr ⟨hsp, rfl, rfl, hM2.below h2⟩) (Fx.of h2)⟩⟩
  refine hcall.mono ?_
  rintro e w2 ⟨rfl, hr0⟩
  have HR0 := Lib.hid hr0
  clear hM2 hE2 hB2 hO2 hF2 hcall hr0 HREL hok
  go_wp2
  go_loopg [8, 9] (F st).2.len (fun gk a c wr => LfRel xb rb b D k F tot w W w1 gk a c wr)
  case atStart => exact HR0.out
  case round =>
    clear HR0
    obtain ⟨r, v, htot, hO, hE, hB, hF, rfl, hc⟩ := hrel
    have hl4 := hE.lt
    have HTT := Lib.hid htot
    have HE3 := Lib.hid hE
    have HB3 := Lib.hid hB
    have HO3 := Lib.hid hO
    have HF3 := Lib.hid hF
    rcases hc with ⟨hsp, rfl, rfl, hM⟩ | ⟨hsp, rfl, rfl, hM⟩
    · have HG := Lib.hid (left_go (r := r) HRK.out hsp)
      have HM3 := Lib.hid hM
      obtain ⟨e0, e1, e2, e3⟩ := Bx.cells4 hE
      clear htot hO hE hB hF hM hsp
      go_wp2_with fail
      go_region_law (first
        | (go_simp
           go_at_call 91
           refine (HF.out xb rb b _ _ HM3.out.drew).mono ?_
           rintro e w3 ⟨v3, rfl, hO4, hM4, hF4⟩
           obtain ⟨hE4, hB4, hO5, hO6, hF5, hz3⟩ := arm1 H.out hs hW1 hl4 HE3.out HB3.out HO3.out HF3.out hO4 hF4
           have HE4 := Lib.hid hE4
           have HB4 := Lib.hid hB4
           have HO4 := Lib.hid hO5
           have HO5 := Lib.hid hO6
           have HM4 := Lib.hid hM4
           have HF4 := Lib.hid hF5
           obtain ⟨e0, e1, e2, e3⟩ := Bx.cells4 hE4
           have hl5 := hE4.lt
           clear hO4 hM4 hF4 hE4 hB4 hO5 hO6 hF5)
        | (go_simp
           go_at_call 69
           refine (pjoined_any (S := Sx W w1) _ w3 HO4.out HO5.out (fun j hj => sx_top hW1 hl5 hj)).mono ?_
           rintro e w4 ⟨v4, rfl, hO6, hb4⟩
           have hz4 := hb4.size
           have hE5 := HE4.out.below hb4
           have HE5 := Lib.hid hE5
           have HB5 := Lib.hid (HB4.out.below hb4)
           have HO6 := Lib.hid hO6
           have HM5 := Lib.hid (HM4.out.below hb4)
           have HF5 := Lib.hid (HF4.out.on hb4)
           obtain ⟨e0, e1, e2, e3⟩ := Bx.cells4 hE5
           obtain ⟨x0, x1, x2, x3⟩ := Bx.frozen4 hE5
           have hl6 := hE5.lt
           clear hO6 hb4 hE5))
      all_goals
        go_wp2_with fail
        have HE6 := Lib.hid (Bx.set4 (x0 := .string v4.o) (x1 := .string v4.nm) (x2 := .slice v4.A v4.ll v4.cap) (x3 := .int .i64 v4.p) HE5.out)
        have HB6 := Lib.hid (Bx.far4 (x0 := .string v4.o) (x1 := .string v4.nm) (x2 := .slice v4.A v4.ll v4.cap) (x3 := .int .i64 v4.p) HB5.out hnq)
        have HM6 := Lib.hid (HM5.out.set4 (x0 := .string v4.o) (x1 := .string v4.nm) (x2 := .slice v4.A v4.ll v4.cap) (x3 := .int .i64 v4.p) HE5.out (by have := H.out.lo2; omega))
        have HO7 := Lib.hid (HO6.out.setS4 (q := w1.heap.size) (x0 := .string v4.o) (x1 := .string v4.nm) (x2 := .slice v4.A v4.ll v4.cap) (x3 := .int .i64 v4.p) (by unfold Sx; omega))
        have HF6 := Lib.hid (HF5.out.set4 (q := w1.heap.size) (x0 := .string v4.o) (x1 := .string v4.nm) (x2 := .slice v4.A v4.ll v4.cap) (x3 := .int .i64 v4.p) (.inl (by omega)))
        refine calls_gen (P := fun W5 => Bx W5 w1.heap.size 25 v4.c ∧ Bx W5 w.heap.size 25 zc4 ∧ PRd W5 xb rb b D (F r.2.tl).2 ∧ FOS W5 (Sx W w1) (binO r.2.hd.text r.1 (F r.2.tl).1) v4 ∧ Fx (X2 xb rb) w W5) ⟨HE6.out, HB6.out, HM6.out, HO7.out, HF6.out⟩ ?_
        rintro W5 ⟨hE, hB, hM, hO, hF⟩
        have HREL : Hid (∀ (w2 : World) (opv okv : Value), (sp k (F r.2.tl).2.hd = true ∧ opv = .string ⟨(F r.2.tl).2.hd.text.toArray⟩ ∧ okv = .bool true ∧ PRd w2 xb rb b D (F r.2.tl).2.tl ∨ sp k (F r.2.tl).2.hd = false ∧ opv = .string ⟨#[]⟩ ∧ okv = .bool false ∧ PRd w2 xb rb b D (F r.2.tl).2) → Fx (X2 xb rb) W5 w2 → LfRel xb rb b D k F tot w W w1 (F r.2.tl).2.len opv okv w2) := Lib.hid (fun w2 opv okv h1 h2 =>
          ⟨(binO r.2.hd.text r.1 (F r.2.tl).1, (F r.2.tl).2), v4, HTT.out.trans HG.out.1, hO.fx h2 (fun j hj => H.out.n2 (by unfold Sx at hj; omega)), hE.fx h2 (H.out.n2 (by omega)), hB.fx h2 (H.out.n2 (Nat.le_refl _)), hF.trans h2, rfl, h1⟩)
        obtain ⟨opv, okv, hcall⟩ : ∃ (o : ByteArray) (q : Bool), Calls Tryz.prog 68 #[.pointer (some ⟨xb, 0, none⟩), .int .i64 (k : Int)] W5 (fun e w' => e = .returned (.tuple #[.string o, .bool q]) ∧ LfRel xb rb b D k F tot w W w1 (F r.2.tl).2.len (.string o) (.bool q) w') := by
          cases hsp : sp k (F r.2.tl).2.hd with
          | true => exact ⟨_, true, (psign_yes W5 hM hsp).mono fun e w' ⟨h1, h2, h3⟩ => ⟨h1, HREL.out w' _ _ (.inl ⟨hsp, rfl, rfl, h2⟩) h3⟩⟩
          | false => exact ⟨_, false, (psign_no W5 hM hsp).mono fun e w' ⟨h1, h2⟩ => ⟨h1, HREL.out w' _ _ (.inr ⟨hsp, rfl, rfl, hM.below h2⟩) (Fx.of h2)⟩⟩
        refine hcall.mono ?_
        rintro e w6 ⟨rfl, hr6⟩
        have HR6 := Lib.hid hr6
        clear hE hB hM hO hF hcall hr6 HREL
        go_wp2
        go_roundg (F r.2.tl).2.len
        case measure => exact HG.out.2
        case rel => exact HR6.out
    · have HT2 := Lib.hid (show tot = r by rw [htot, left_stop hsp])
      obtain ⟨e0, e1, e2, e3⟩ := Bx.cells4 hE
      obtain ⟨y0, y1, y2, y3⟩ := Bx.frozen4 hB
      obtain ⟨b0, b1, b2, b3⟩ := Bx.cells4 hB
      have hl3 := hB.lt
      have HM3 := Lib.hid hM
      clear htot hO hE hB hF hM hsp
      go_wp2
      obtain ⟨d0, d1, d2, d3⟩ := (Bx.set4 (x0 := .string v.o) (x1 := .string v.nm) (x2 := .slice v.A v.ll v.cap) (x3 := .int .i64 v.p) HB3.out).cells4
      rw [HT2.out]
      refine bodyPost_ret (v := .agg #[.string v.o, .string v.nm, .slice v.A v.ll v.cap, .int .i64 v.p]) (by simp [results, Tryz.results71, go_sem, d0, d1, d2, d3]) rfl ⟨v, rfl, ?_, ?_, ?_⟩
      · exact (HO3.out.setS4 (by unfold Sx; omega)).wide (fun j hj hS => by unfold Sx at hS; unfold Rg; omega)
      · exact HM3.out.set4 HB3.out (H.out.lo2)
      · exact HF3.out.set4 (.inl (Nat.le_refl _))
end
end Go.Proofs.YtjhicgllofjpoaaGreatDoor
