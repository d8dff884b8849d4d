/-
  A reader of formulas: joined, deeper, enclosed, walked.
-/
import Derived.Test.YtjhicgllofjpoaaGreatDoorJ9
import Derived.Deep.RegionLaw
import Derived.Deep.RegionHeld3
import Derived.BigQuiet
namespace Go.Proofs.YtjhicgllofjpoaaGreatDoor
open Go.RowKit

def zc4 : List Value := [.string ⟨#[]⟩, .string ⟨#[]⟩, .slice none 0 0, .int .i64 0]
section
variable {w w' : World} {q : Nat} {c0 c1 c2 c3 x0 x1 x2 x3 : Value}
theorem Bx.cells4 {t : TypeId} (h : Bx w q t [c0, c1, c2, c3]) : w.cell? ⟨q, 0, none⟩ = some c0 ∧ w.cell? ⟨q, 1, none⟩ = some c1 ∧ w.cell? ⟨q, 2, none⟩ = some c2 ∧ w.cell? ⟨q, 3, none⟩ = some c3 := ⟨h.cell 0, h.cell 1, h.cell 2, h.cell 3⟩
theorem Bx.frozen4 {t : TypeId} (h : Bx w q t [c0, c1, c2, c3]) : w.frozen? ⟨q, 0, none⟩ = false ∧ w.frozen? ⟨q, 1, none⟩ = false ∧ w.frozen? ⟨q, 2, none⟩ = false ∧ w.frozen? ⟨q, 3, none⟩ = false := ⟨h.frozen 0, h.frozen 1, h.frozen 2, h.frozen 3⟩
theorem Bx.set4 {t : TypeId} (h : Bx w q t [c0, c1, c2, c3]) : Bx ((((w.setCell ⟨q, 0, none⟩ x0).setCell ⟨q, 1, none⟩ x1).setCell ⟨q, 2, none⟩ x2).setCell ⟨q, 3, none⟩ x3) q t [x0, x1, x2, x3] := (((h.set 0 x0).set 1 x1).set 2 x2).set 3 x3
theorem Bx.far4 {t : TypeId} {q' : Nat} {cs : List Value} (h : Bx w q t cs) (hne : q ≠ q') : Bx ((((w.setCell ⟨q', 0, none⟩ x0).setCell ⟨q', 1, none⟩ x1).setCell ⟨q', 2, none⟩ x2).setCell ⟨q', 3, none⟩ x3) q t cs := (((h.far (p := ⟨q', 0, none⟩) hne x0).far (p := ⟨q', 1, none⟩) hne x1).far (p := ⟨q', 2, none⟩) hne x2).far (p := ⟨q', 3, none⟩) hne x3
theorem Fx.set4 {X : Nat → Prop} {a : World} (h : Fx X a w) (hq : a.heap.size ≤ q ∨ X q) : Fx X a ((((w.setCell ⟨q, 0, none⟩ x0).setCell ⟨q, 1, none⟩ x1).setCell ⟨q, 2, none⟩ x2).setCell ⟨q, 3, none⟩ x3) := Fx.setL (us := [x0, x1, x2, x3]) (i := 0) hq h
theorem FOS.setS4 {S : Nat → Prop} {o : Option Fo} {v : FV} (h : FOS w S o v) (hq : ¬ S q) : FOS ((((w.setCell ⟨q, 0, none⟩ x0).setCell ⟨q, 1, none⟩ x1).setCell ⟨q, 2, none⟩ x2).setCell ⟨q, 3, none⟩ x3) S o v := FOS.setL (us := [x0, x1, x2, x3]) (i := 0) h hq
theorem FOS.set4 {b0 b1 : Nat} {o : Option Fo} {v : FV} (h : FO w b0 b1 o v) (hq : q < b0 ∨ b1 ≤ q) : FO ((((w.setCell ⟨q, 0, none⟩ x0).setCell ⟨q, 1, none⟩ x1).setCell ⟨q, 2, none⟩ x2).setCell ⟨q, 3, none⟩ x3) b0 b1 o v := FOS.setS4 h (by unfold Rg; omega)
theorem PRd.set4 {xb rb b D : Nat} {st : St} (h : PRd w xb rb b D st) (hB : Bx w q 25 [c0, c1, c2, c3]) (hq : b ≤ q) : PRd ((((w.setCell ⟨q, 0, none⟩ x0).setCell ⟨q, 1, none⟩ x1).setCell ⟨q, 2, none⟩ x2).setCell ⟨q, 3, none⟩ x3) xb rb b D st := PRd.setL (us := [x0, x1, x2, x3]) (i := 0) (t := 25) (cs := [c0, c1, c2, c3]) (by unfold RpT; decide) hq h hB
end
/-- What a call that reads a formula leaves. -/
def FmP (xb rb b D : Nat) (r : RF) (w : World) (e : Ending) (w' : World) : Prop :=
  ∃ v : FV, e = .returned (.agg #[.string v.o, .string v.nm, .slice v.A v.ll v.cap, .int .i64 v.p]) ∧ FO w' (w.heap.size + 1) w'.heap.size r.1 v ∧ PRd w' xb rb b D r.2 ∧ Fx (X2 xb rb) w w'
def RFC (f : FuncId) (F : St → RF) (D : Nat) : Prop := ∀ (xb rb b : Nat) (st : St) (w : World), PRd w xb rb b D st → Calls Tryz.prog f #[.pointer (some ⟨xb, 0, none⟩)] w (FmP xb rb b D (F st) w)
/-- .. and one a level deeper. -/
def DFC (f : FuncId) (F : St → RF) (D : Nat) : Prop := ∀ (xb rb b : Nat) (st : St) (w : World), PRd w xb rb b D st → Calls Tryz.prog 70 #[.pointer (some ⟨xb, 0, none⟩), .func (.func f) #[.pointer (some ⟨xb, 0, none⟩)] #[]] w (FmP xb rb b D (F st) w)
section
variable {xb rb b D : Nat} {st : St}
theorem PRd.x2 {w : World} (h : PRd w xb rb b D st) {k n : Nat} (hn : w.heap.size ≤ n) (hk : X2 xb rb k) : k < n := by
  have := h.ltx
  have := h.hr
  rcases hk with rfl | rfl <;> omega
theorem PRd.n2 {w : World} (h : PRd w xb rb b D st) {q : Nat} (hq : w.heap.size ≤ q) : ¬ X2 xb rb q := fun h1 => by have := h.x2 hq h1; omega
theorem PRd.lo2 {w : World} (h : PRd w xb rb b D st) : b ≤ w.heap.size := by have := h.ltx; have := h.hx; omega
theorem PRd.lev {w : World} {l : Nat} (h : PRd w xb rb b D st) (hl : l ≤ 64) {u : Int} (hu : u = (l : Int)) : PRd (w.setCell ⟨xb, 1, none⟩ (.int .i64 u)) xb rb b l st := by
  subst hu
  obtain ⟨v, hb, hv⟩ := h.blk
  have hg : ∀ k, k < b → (w.setCell ⟨xb, 1, none⟩ (.int .i64 (l : Int))).heap[k]? = w.heap[k]? := fun k hk => Below.heap_setCell w ⟨xb, 1, none⟩ _ k (by show k ≠ xb; have := h.hx; omega)
  have hG := glob_keep h.glob (hg 0 h.lo.2) (hg 2 h.lo.1)
  refine ⟨⟨v, hb.set 1 _, ?_⟩, ?_, hG, hl, h.lo, h.hx, by simpa using h.hr⟩
  · cases st with
    | good us => exact hv
    | bad c p =>
      obtain ⟨eb, h3, h4⟩ := hv
      refine ⟨eb, h3, h4.far (a := ⟨xb, 1, none⟩) ?_ _⟩
      rintro rfl
      obtain ⟨cs, ht⟩ := h4.typ
      rw [show w.heap[eb]? = _ from hb] at ht
      injection ht with ht
      injection ht with _ ht
      exact absurd ht (by decide)
  · cases st with
    | bad c p => trivial
    | good us =>
      have hT : TR w rb us := h.tr
      obtain ⟨ts, k, h1, h2⟩ := hT.rd
      exact ⟨⟨ts, k, h1, h2.set (show w.heap[xb]? = some (.cells _ 105 (0, 0)) from hb) (by decide) (by decide) _⟩, hT.fine, hG, hT.hi⟩
theorem fo_bin {w : World} {S : Nat → Prop} {g : Nat} {op : List UInt8} {vl vr : FV} {L R : Option Fo} (hl : FOS w S L vl) (hr : FOS w S R vr) (hg : S g)
    (hw : w.heap[g]? = some (.cells #[.string vl.o, .string vl.nm, .slice vl.A vl.ll vl.cap, .int .i64 vl.p, .string vr.o, .string vr.nm, .slice vr.A vr.ll vr.cap, .int .i64 vr.p] 25 (0, 0))) : FOS w S (binO op L R) ⟨⟨op.toArray⟩, ⟨#[]⟩, some ⟨g, 0, none⟩, 2, 2, vl.p⟩ := by
  cases L with
  | none => cases R <;> trivial
  | some a => cases R with
    | none => trivial
    | some c =>
      have hp := FS.posn (show FS w 25 S a vl.c from hl)
      exact ⟨g, 2, vl.c, vr.c, by rw [← hp]; rfl, ⟨hg, _, hw, fun j u hu => by simpa [FV.c] using hu⟩, hl, hr⟩
theorem fo_un {w : World} {S : Nat → Prop} {g : Nat} {op : List UInt8} {vl : FV} {L : Option Fo} (q : Nat) (hl : FOS w S L vl) (hg : S g)
    (hw : w.heap[g]? = some (.cells #[.string vl.o, .string vl.nm, .slice vl.A vl.ll vl.cap, .int .i64 vl.p] 25 (0, 0))) : FOS w S (unO op q L) ⟨⟨op.toArray⟩, ⟨#[]⟩, some ⟨g, 0, none⟩, 1, 1, (q : Int)⟩ := by
  cases L with
  | none => trivial
  | some a => exact ⟨g, 1, vl.c, rfl, ⟨hg, _, hw, fun j u hu => by simpa [FV.c] using hu⟩, hl⟩
/-- What joined tells. -/
def JnP (S : Nat → Prop) (op : List UInt8) (L R : Option Fo) (w : World) (e : Ending) (w' : World) : Prop :=
  ∃ v : FV, e = .returned (.agg #[.string v.o, .string v.nm, .slice v.A v.ll v.cap, .int .i64 v.p]) ∧ FOS w' S (binO op L R) v ∧ Below w.heap.size w w'
set_option maxHeartbeats 1000000 in
theorem pjoined_any {S : Nat → Prop} (op : List UInt8) {vl vr : FV} {L R : Option Fo} (w : World) (hl : FOS w S L vl) (hr : FOS w S R vr) (hS : ∀ k, w.heap.size ≤ k → S k) :
    Calls Tryz.prog 69 #[.string ⟨op.toArray⟩, .agg #[.string vl.o, .string vl.nm, .slice vl.A vl.ll vl.cap, .int .i64 vl.p], .agg #[.string vr.o, .string vr.nm, .slice vr.A vr.ll vr.cap, .int .i64 vr.p]] w (JnP S op L R w) := by
  have HL := Lib.hid hl
  have HR := Lib.hid hr
  clear hl hr
  go_enter Tryz.func69, Tryz.ntmps69
  go_wp2
  refine bodyPost_ret (v := .agg #[.string ⟨op.toArray⟩, .string ⟨#[]⟩, .slice (some ⟨w.heap.size + 1 + 1 + 1, 0, none⟩) 2 2, .int .i64 vl.p]) (by simp [results, Tryz.results69, go_sem]) rfl ⟨⟨⟨op.toArray⟩, ⟨#[]⟩, some ⟨w.heap.size + 1 + 1 + 1, 0, none⟩, 2, 2, vl.p⟩, rfl, ?_, ((((Below.refl _ _).alloc (Nat.le_refl _) _).alloc (by simp) _).alloc (by simp; omega) _).alloc (by simp; omega) _⟩
  refine fo_bin ?_ ?_ (hS _ (by omega)) (heap_new_at (by simp) _)
  · exact (((HL.out.alloc _).alloc _).alloc _).alloc _
  · exact (((HR.out.alloc _).alloc _).alloc _).alloc _
set_option maxHeartbeats 1000000 in
theorem pdeeper_no (w : World) (h : PRd w xb rb b 0 st) (f : FuncId) (cap : Array Value) : Calls Tryz.prog 70 #[.pointer (some ⟨xb, 0, none⟩), .func (.func f) cap #[]] w (FmP xb rb b 0 (deepS st) w) := by
  obtain ⟨v, c0, c1, c2, z0, z2, hv⟩ := h.cells
  have hx := h.ltx
  have hne := World.new_ne w ⟨xb, 1, none⟩ c1
  have H := Lib.hid h
  clear h hv
  go_enter Tryz.func70, Tryz.ntmps70
  go_wp2_with fail
  refine calls_gen (P := fun W => PRd W xb rb b 0 st ∧ Bx W w.heap.size 25 zc4 ∧ Fx (X2 xb rb) w W) ⟨H.out.alloc _, Bx.new w 25 zc4, (Fx.refl _ _).alloc _⟩ ?_
  rintro W ⟨hM, hB, hF⟩
  refine (pfail_any 21 W hM).mono ?_
  rintro e w1 ⟨rfl, hM1, hF1⟩
  have hB1 := hB.fx hF1 (H.out.n2 (Nat.le_refl _))
  have HB1 := Lib.hid hB1
  have HM1 := Lib.hid hM1
  have HF1 := Lib.hid (hF.trans hF1)
  obtain ⟨b0, b1, b2, b3⟩ := Bx.cells4 hB1
  obtain ⟨y0, y1, y2, y3⟩ := Bx.frozen4 hB1
  have hs1 := hB1.lt
  clear hM hB hF hM1 hF1 hB1 c0 c1 c2 z0 z2
  go_wp2
  obtain ⟨d0, d1, d2, d3⟩ := (Bx.set4 (x0 := .string ⟨#[]⟩) (x1 := .string ⟨#[]⟩) (x2 := .slice none 0 0) (x3 := .int .i64 0) HB1.out).cells4
  refine bodyPost_ret (v := .agg #[.string ⟨#[]⟩, .string ⟨#[]⟩, .slice none 0 0, .int .i64 0]) (by simp [results, Tryz.results70, go_sem, d0, d1, d2, d3]) rfl ⟨fv0, rfl, trivial, ?_, ?_⟩
  · exact HM1.out.set4 HB1.out (H.out.lo2)
  · exact HF1.out.set4 (.inl (Nat.le_refl _))
set_option maxHeartbeats 1000000 in
theorem pdeeper_pform {l : Nat} {F : St → RF} (hF : RFC 25 F l) : DFC 25 F (l + 1) := by
  intro xb rb b st w h
  obtain ⟨v, c0, c1, c2, z0, z2, hv⟩ := h.cells
  have hx := h.ltx
  have z1 : w.frozen? ⟨xb, 1, none⟩ = false := by obtain ⟨v, hb, _⟩ := h.blk; exact hb.frozen 1
  have hl : l ≤ 63 := by have := h.d64; omega
  have g0 : (((l + 1 : Nat) : Int) == 0) = false := by rw [beq_eq_false_iff_ne]; omega
  have hne := World.new_ne w ⟨xb, 1, none⟩ c1
  have H := Lib.hid h
  have HF := Lib.hid hF
  clear h hv hF
  go_enter Tryz.func70, Tryz.ntmps70
  go_wp2_with fail
  refine calls_gen (P := fun W => PRd W xb rb b l st ∧ Bx W w.heap.size 25 zc4 ∧ Fx (X2 xb rb) w W) ⟨(H.out.lev (by omega) rfl).alloc _, ?_, ((Fx.refl _ _).setCell (p := ⟨xb, 1, none⟩) (.inr (.inl rfl)) _).alloc _⟩ ?_
  · exact Bx.newAt (by simp) 25 zc4
  rintro W ⟨hM, hB, hF⟩
  refine (HF.out xb rb b st W hM).mono ?_
  rintro e w1 ⟨v1, rfl, hO, hM1, hF1⟩
  have hs := hB.lt
  have hB1 := hB.fx hF1 (H.out.n2 (Nat.le_refl _))
  have hs1 := hB1.lt
  have hW1 := hF1.size
  clear c0 c1 c2 z0 z1 z2
  obtain ⟨v', c0, c1, c2, z0, z2, _⟩ := hM1.cells
  have z1 : w1.frozen? ⟨xb, 1, none⟩ = false := by obtain ⟨v, hb, _⟩ := hM1.blk; exact hb.frozen 1
  have hx1 := hM1.ltx
  obtain ⟨y0, y1, y2, y3⟩ := Bx.frozen4 hB1
  obtain ⟨b0, b1, b2, b3⟩ := Bx.cells4 hB1
  have HB1 := Lib.hid hB1
  have HM1 := Lib.hid hM1
  have HO := Lib.hid hO
  have HF1 := Lib.hid (hF.trans hF1)
  clear hM hB hF hM1 hO hF1 hB1
  go_wp2
  have hE : ((l : Int) + 1) = ((l + 1 : Nat) : Int) := by omega
  have hBx := HB1.out.far (p := ⟨xb, 1, none⟩) hne (.int .i64 ((l : Int) + 1))
  obtain ⟨d0, d1, d2, d3⟩ := ((Bx.set4 (x0 := .string v1.o) (x1 := .string v1.nm) (x2 := .slice v1.A v1.ll v1.cap) (x3 := .int .i64 v1.p) hBx).alloc (.cells #[.string v1.o, .string v1.nm, .slice v1.A v1.ll v1.cap, .int .i64 v1.p] 25)).cells4
  refine bodyPost_ret (v := .agg #[.string v1.o, .string v1.nm, .slice v1.A v1.ll v1.cap, .int .i64 v1.p]) (by simp [results, Tryz.results70, go_sem, d0, d1, d2, d3]) rfl ⟨v1, rfl, ?_, ?_, ?_⟩
  · exact (((HO.out.set (.inl (by omega)) _).set4 (.inl (by omega))).alloc _).mono (by omega) (by simp)
  · exact ((HM1.out.lev (l := l + 1) (by omega) hE).set4 hBx (H.out.lo2)).alloc _
  · exact ((HF1.out.setCell (p := ⟨xb, 1, none⟩) (.inr (.inl rfl)) _).set4 (.inl (Nat.le_refl _))).alloc _
set_option maxHeartbeats 1000000 in
theorem pdeeper_puntil {l : Nat} {F : St → RF} (hF : RFC 91 F l) : DFC 91 F (l + 1) := by
  intro xb rb b st w h
  obtain ⟨v, c0, c1, c2, z0, z2, hv⟩ := h.cells
  have hx := h.ltx
  have z1 : w.frozen? ⟨xb, 1, none⟩ = false := by obtain ⟨v, hb, _⟩ := h.blk; exact hb.frozen 1
  have hl : l ≤ 63 := by have := h.d64; omega
  have g0 : (((l + 1 : Nat) : Int) == 0) = false := by rw [beq_eq_false_iff_ne]; omega
  have hne := World.new_ne w ⟨xb, 1, none⟩ c1
  have H := Lib.hid h
  have HF := Lib.hid hF
  clear h hv hF
  go_enter Tryz.func70, Tryz.ntmps70
  go_wp2_with fail
  refine calls_gen (P := fun W => PRd W xb rb b l st ∧ Bx W w.heap.size 25 zc4 ∧ Fx (X2 xb rb) w W) ⟨(H.out.lev (by omega) rfl).alloc _, ?_, ((Fx.refl _ _).setCell (p := ⟨xb, 1, none⟩) (.inr (.inl rfl)) _).alloc _⟩ ?_
  · exact Bx.newAt (by simp) 25 zc4
  rintro W ⟨hM, hB, hF⟩
  refine (HF.out xb rb b st W hM).mono ?_
  rintro e w1 ⟨v1, rfl, hO, hM1, hF1⟩
  have hs := hB.lt
  have hB1 := hB.fx hF1 (H.out.n2 (Nat.le_refl _))
  have hs1 := hB1.lt
  have hW1 := hF1.size
  clear c0 c1 c2 z0 z1 z2
  obtain ⟨v', c0, c1, c2, z0, z2, _⟩ := hM1.cells
  have z1 : w1.frozen? ⟨xb, 1, none⟩ = false := by obtain ⟨v, hb, _⟩ := hM1.blk; exact hb.frozen 1
  have hx1 := hM1.ltx
  obtain ⟨y0, y1, y2, y3⟩ := Bx.frozen4 hB1
  obtain ⟨b0, b1, b2, b3⟩ := Bx.cells4 hB1
  have HB1 := Lib.hid hB1
  have HM1 := Lib.hid hM1
  have HO := Lib.hid hO
  have HF1 := Lib.hid (hF.trans hF1)
  clear hM hB hF hM1 hO hF1 hB1
  go_wp2
  have hE : ((l : Int) + 1) = ((l + 1 : Nat) : Int) := by omega
  have hBx := HB1.out.far (p := ⟨xb, 1, none⟩) hne (.int .i64 ((l : Int) + 1))
  obtain ⟨d0, d1, d2, d3⟩ := ((Bx.set4 (x0 := .string v1.o) (x1 := .string v1.nm) (x2 := .slice v1.A v1.ll v1.cap) (x3 := .int .i64 v1.p) hBx).alloc (.cells #[.string v1.o, .string v1.nm, .slice v1.A v1.ll v1.cap, .int .i64 v1.p] 25)).cells4
  refine bodyPost_ret (v := .agg #[.string v1.o, .string v1.nm, .slice v1.A v1.ll v1.cap, .int .i64 v1.p]) (by simp [results, Tryz.results70, go_sem, d0, d1, d2, d3]) rfl ⟨v1, rfl, ?_, ?_, ?_⟩
  · exact (((HO.out.set (.inl (by omega)) _).set4 (.inl (by omega))).alloc _).mono (by omega) (by simp)
  · exact ((HM1.out.lev (l := l + 1) (by omega) hE).set4 hBx (H.out.lo2)).alloc _
  · exact ((HF1.out.setCell (p := ⟨xb, 1, none⟩) (.inr (.inl rfl)) _).set4 (.inl (Nat.le_refl _))).alloc _
set_option maxHeartbeats 1000000 in
theorem pdeeper_ppref {l : Nat} {F : St → RF} (hF : RFC 116 F l) : DFC 116 F (l + 1) := by
  intro xb rb b st w h
  obtain ⟨v, c0, c1, c2, z0, z2, hv⟩ := h.cells
  have hx := h.ltx
  have z1 : w.frozen? ⟨xb, 1, none⟩ = false := by obtain ⟨v, hb, _⟩ := h.blk; exact hb.frozen 1
  have hl : l ≤ 63 := by have := h.d64; omega
  have g0 : (((l + 1 : Nat) : Int) == 0) = false := by rw [beq_eq_false_iff_ne]; omega
  have hne := World.new_ne w ⟨xb, 1, none⟩ c1
  have H := Lib.hid h
  have HF := Lib.hid hF
  clear h hv hF
  go_enter Tryz.func70, Tryz.ntmps70
  go_wp2_with fail
  refine calls_gen (P := fun W => PRd W xb rb b l st ∧ Bx W w.heap.size 25 zc4 ∧ Fx (X2 xb rb) w W) ⟨(H.out.lev (by omega) rfl).alloc _, ?_, ((Fx.refl _ _).setCell (p := ⟨xb, 1, none⟩) (.inr (.inl rfl)) _).alloc _⟩ ?_
  · exact Bx.newAt (by simp) 25 zc4
  rintro W ⟨hM, hB, hF⟩
  refine (HF.out xb rb b st W hM).mono ?_
  rintro e w1 ⟨v1, rfl, hO, hM1, hF1⟩
  have hs := hB.lt
  have hB1 := hB.fx hF1 (H.out.n2 (Nat.le_refl _))
  have hs1 := hB1.lt
  have hW1 := hF1.size
  clear c0 c1 c2 z0 z1 z2
  obtain ⟨v', c0, c1, c2, z0, z2, _⟩ := hM1.cells
  have z1 : w1.frozen? ⟨xb, 1, none⟩ = false := by obtain ⟨v, hb, _⟩ := hM1.blk; exact hb.frozen 1
  have hx1 := hM1.ltx
  obtain ⟨y0, y1, y2, y3⟩ := Bx.frozen4 hB1
  obtain ⟨b0, b1, b2, b3⟩ := Bx.cells4 hB1
  have HB1 := Lib.hid hB1
  have HM1 := Lib.hid hM1
  have HO := Lib.hid hO
  have HF1 := Lib.hid (hF.trans hF1)
  clear hM hB hF hM1 hO hF1 hB1
  go_wp2
  have hE : ((l : Int) + 1) = ((l + 1 : Nat) : Int) := by omega
  have hBx := HB1.out.far (p := ⟨xb, 1, none⟩) hne (.int .i64 ((l : Int) + 1))
  obtain ⟨d0, d1, d2, d3⟩ := ((Bx.set4 (x0 := .string v1.o) (x1 := .string v1.nm) (x2 := .slice v1.A v1.ll v1.cap) (x3 := .int .i64 v1.p) hBx).alloc (.cells #[.string v1.o, .string v1.nm, .slice v1.A v1.ll v1.cap, .int .i64 v1.p] 25)).cells4
  refine bodyPost_ret (v := .agg #[.string v1.o, .string v1.nm, .slice v1.A v1.ll v1.cap, .int .i64 v1.p]) (by simp [results, Tryz.results70, go_sem, d0, d1, d2, d3]) rfl ⟨v1, rfl, ?_, ?_, ?_⟩
  · exact (((HO.out.set (.inl (by omega)) _).set4 (.inl (by omega))).alloc _).mono (by omega) (by simp)
  · exact ((HM1.out.lev (l := l + 1) (by omega) hE).set4 hBx (H.out.lo2)).alloc _
  · exact ((HF1.out.setCell (p := ⟨xb, 1, none⟩) (.inr (.inl rfl)) _).set4 (.inl (Nat.le_refl _))).alloc _
end
end Go.Proofs.YtjhicgllofjpoaaGreatDoor
