/-
  A reader of formulas: joined, deeper, enclosed, walked. toTheRight, walked. toTheLeft, walked. Formulas of a reader, from what stands in parentheses to the loosest, walked. Formulas of a reader, rank by rank, at each level, walked. A whole text read as a formula, walked.
-/
import Derived.Test.YtmgjpjjglghbaaaGreatDoorJB
import Derived.Deep.RegionLaw
import Derived.Deep.RegionHeld3
import Derived.BigQuiet
import Derived.Deep.LoopGhost
import Derived.Test.YtmgjpjjglghbaaaGreatDoorJA
namespace Go.Proofs.YtmgjpjjglghbaaaGreatDoor
section
open Go.RowKit

def zc4 : List Value := [.string ⟨#[]⟩, .string ⟨#[]⟩, .slice none 0 0, .int .i64 0]
section
variable {w w' : World} {q : Nat} {c0 c1 c2 c3 x0 x1 x2 x3 : Value}
theorem Bx.cells4 {t : TypeId} (h : Bx w q t [c0, c1, c2, c3]) : w.cell? ⟨q, 0, none⟩ = some c0 ∧ w.cell? ⟨q, 1, none⟩ = some c1 ∧ w.cell? ⟨q, 2, none⟩ = some c2 ∧ w.cell? ⟨q, 3, none⟩ = some c3 := ⟨h.cell 0, h.cell 1, h.cell 2, h.cell 3⟩
theorem Bx.frozen4 {t : TypeId} (h : Bx w q t [c0, c1, c2, c3]) : w.frozen? ⟨q, 0, none⟩ = false ∧ w.frozen? ⟨q, 1, none⟩ = false ∧ w.frozen? ⟨q, 2, none⟩ = false ∧ w.frozen? ⟨q, 3, none⟩ = false := ⟨h.frozen 0, h.frozen 1, h.frozen 2, h.frozen 3⟩
theorem Bx.set4 {t : TypeId} (h : Bx w q t [c0, c1, c2, c3]) : Bx ((((w.setCell ⟨q, 0, none⟩ x0).setCell ⟨q, 1, none⟩ x1).setCell ⟨q, 2, none⟩ x2).setCell ⟨q, 3, none⟩ x3) q t [x0, x1, x2, x3] := (((h.set 0 x0).set 1 x1).set 2 x2).set 3 x3
theorem Bx.far4 {t : TypeId} {q' : Nat} {cs : List Value} (h : Bx w q t cs) (hne : q ≠ q') : Bx ((((w.setCell ⟨q', 0, none⟩ x0).setCell ⟨q', 1, none⟩ x1).setCell ⟨q', 2, none⟩ x2).setCell ⟨q', 3, none⟩ x3) q t cs := (((h.far (p := ⟨q', 0, none⟩) hne x0).far (p := ⟨q', 1, none⟩) hne x1).far (p := ⟨q', 2, none⟩) hne x2).far (p := ⟨q', 3, none⟩) hne x3
theorem Fx.set4 {X : Nat → Prop} {a : World} (h : Fx X a w) (hq : a.heap.size ≤ q ∨ X q) : Fx X a ((((w.setCell ⟨q, 0, none⟩ x0).setCell ⟨q, 1, none⟩ x1).setCell ⟨q, 2, none⟩ x2).setCell ⟨q, 3, none⟩ x3) := Fx.setL (us := [x0, x1, x2, x3]) (i := 0) hq h
theorem FOS.setS4 {S : Nat → Prop} {o : Option Fo} {v : FV} (h : FOS w S o v) (hq : ¬ S q) : FOS ((((w.setCell ⟨q, 0, none⟩ x0).setCell ⟨q, 1, none⟩ x1).setCell ⟨q, 2, none⟩ x2).setCell ⟨q, 3, none⟩ x3) S o v := FOS.setL (us := [x0, x1, x2, x3]) (i := 0) h hq
theorem FOS.set4 {b0 b1 : Nat} {o : Option Fo} {v : FV} (h : FO w b0 b1 o v) (hq : q < b0 ∨ b1 ≤ q) : FO ((((w.setCell ⟨q, 0, none⟩ x0).setCell ⟨q, 1, none⟩ x1).setCell ⟨q, 2, none⟩ x2).setCell ⟨q, 3, none⟩ x3) b0 b1 o v := FOS.setS4 h (by unfold Rg; omega)
theorem PRd.set4 {xb rb b D : Nat} {st : St} (h : PRd w xb rb b D st) (hB : Bx w q 27 [c0, c1, c2, c3]) (hq : b ≤ q) : PRd ((((w.setCell ⟨q, 0, none⟩ x0).setCell ⟨q, 1, none⟩ x1).setCell ⟨q, 2, none⟩ x2).setCell ⟨q, 3, none⟩ x3) xb rb b D st := PRd.setL (us := [x0, x1, x2, x3]) (i := 0) (t := 27) (cs := [c0, c1, c2, c3]) (by unfold RpT; decide) hq h hB
end
/-- What a call that reads a formula leaves. -/
def FmP (xb rb b D : Nat) (r : RF) (w : World) (e : Ending) (w' : World) : Prop :=
  ∃ v : FV, e = .returned (.agg #[.string v.o, .string v.nm, .slice v.A v.ll v.cap, .int .i64 v.p]) ∧ FO w' (w.heap.size + 1) w'.heap.size r.1 v ∧ PRd w' xb rb b D r.2 ∧ Fx (X2 xb rb) w w'
def RFC (f : FuncId) (F : St → RF) (D : Nat) : Prop := ∀ (xb rb b : Nat) (st : St) (w : World), PRd w xb rb b D st → Calls Tryz.prog f #[.pointer (some ⟨xb, 0, none⟩)] w (FmP xb rb b D (F st) w)
/-- .. and one a level deeper. -/
def DFC (f : FuncId) (F : St → RF) (D : Nat) : Prop := ∀ (xb rb b : Nat) (st : St) (w : World), PRd w xb rb b D st → Calls Tryz.prog 108 #[.pointer (some ⟨xb, 0, none⟩), .func (.func f) #[.pointer (some ⟨xb, 0, none⟩)] #[]] w (FmP xb rb b D (F st) w)
section
variable {xb rb b D : Nat} {st : St}
theorem PRd.x2 {w : World} (h : PRd w xb rb b D st) {k n : Nat} (hn : w.heap.size ≤ n) (hk : X2 xb rb k) : k < n := by
  have := h.ltx
  have := h.hr
  rcases hk with rfl | rfl <;> omega
theorem PRd.n2 {w : World} (h : PRd w xb rb b D st) {q : Nat} (hq : w.heap.size ≤ q) : ¬ X2 xb rb q := fun h1 => by have := h.x2 hq h1; omega
theorem PRd.lo2 {w : World} (h : PRd w xb rb b D st) : b ≤ w.heap.size := by have := h.ltx; have := h.hx; omega
theorem PRd.lev {w : World} {l : Nat} (h : PRd w xb rb b D st) (hl : l ≤ 64) {u : Int} (hu : u = (l : Int)) : PRd (w.setCell ⟨xb, 1, none⟩ (.int .i64 u)) xb rb b l st := by
  subst hu
  obtain ⟨v, hb, hv⟩ := h.blk
  have hg : ∀ k, k < b → (w.setCell ⟨xb, 1, none⟩ (.int .i64 (l : Int))).heap[k]? = w.heap[k]? := fun k hk => Below.heap_setCell w ⟨xb, 1, none⟩ _ k (by show k ≠ xb; have := h.hx; omega)
  have hG := glob_keep h.glob (hg 0 h.lo.2) (hg 2 h.lo.1)
  refine ⟨⟨v, hb.set 1 _, ?_⟩, ?_, hG, hl, h.lo, h.hx, by simpa using h.hr⟩
  · cases st with
    | good us => exact hv
    | bad c p =>
      obtain ⟨eb, h3, h4⟩ := hv
      refine ⟨eb, h3, h4.far (a := ⟨xb, 1, none⟩) ?_ _⟩
      rintro rfl
      obtain ⟨cs, ht⟩ := h4.typ
      rw [show w.heap[eb]? = _ from hb] at ht
      injection ht with ht
      injection ht with _ ht
      exact absurd ht (by decide)
  · cases st with
    | bad c p => trivial
    | good us =>
      have hT : TR w rb us := h.tr
      obtain ⟨ts, k, h1, h2⟩ := hT.rd
      exact ⟨⟨ts, k, h1, h2.set (show w.heap[xb]? = some (.cells _ 102 (0, 0)) from hb) (by decide) (by decide) _⟩, hT.fine, hG, hT.hi⟩
theorem fo_bin {w : World} {S : Nat → Prop} {g : Nat} {op : List UInt8} {vl vr : FV} {L R : Option Fo} (hl : FOS w S L vl) (hr : FOS w S R vr) (hg : S g)
    (hw : w.heap[g]? = some (.cells #[.string vl.o, .string vl.nm, .slice vl.A vl.ll vl.cap, .int .i64 vl.p, .string vr.o, .string vr.nm, .slice vr.A vr.ll vr.cap, .int .i64 vr.p] 27 (0, 0))) : FOS w S (binO op L R) ⟨⟨op.toArray⟩, ⟨#[]⟩, some ⟨g, 0, none⟩, 2, 2, vl.p⟩ := by
  cases L with
  | none => cases R <;> trivial
  | some a => cases R with
    | none => trivial
    | some c =>
      have hp := FS.posn (show FS w 27 S a vl.c from hl)
      exact ⟨g, 2, vl.c, vr.c, by rw [← hp]; rfl, ⟨hg, _, hw, fun j u hu => by simpa [FV.c] using hu⟩, hl, hr⟩
theorem fo_un {w : World} {S : Nat → Prop} {g : Nat} {op : List UInt8} {vl : FV} {L : Option Fo} (q : Nat) (hl : FOS w S L vl) (hg : S g)
    (hw : w.heap[g]? = some (.cells #[.string vl.o, .string vl.nm, .slice vl.A vl.ll vl.cap, .int .i64 vl.p] 27 (0, 0))) : FOS w S (unO op q L) ⟨⟨op.toArray⟩, ⟨#[]⟩, some ⟨g, 0, none⟩, 1, 1, (q : Int)⟩ := by
  cases L with
  | none => trivial
  | some a => exact ⟨g, 1, vl.c, rfl, ⟨hg, _, hw, fun j u hu => by simpa [FV.c] using hu⟩, hl⟩
/-- What joined tells. -/
def JnP (S : Nat → Prop) (op : List UInt8) (L R : Option Fo) (w : World) (e : Ending) (w' : World) : Prop :=
  ∃ v : FV, e = .returned (.agg #[.string v.o, .string v.nm, .slice v.A v.ll v.cap, .int .i64 v.p]) ∧ FOS w' S (binO op L R) v ∧ Below w.heap.size w w'
set_option maxHeartbeats 1000000 in
theorem pjoined_any {S : Nat → Prop} (op : List UInt8) {vl vr : FV} {L R : Option Fo} (w : World) (hl : FOS w S L vl) (hr : FOS w S R vr) (hS : ∀ k, w.heap.size ≤ k → S k) :
    Calls Tryz.prog 107 #[.string ⟨op.toArray⟩, .agg #[.string vl.o, .string vl.nm, .slice vl.A vl.ll vl.cap, .int .i64 vl.p], .agg #[.string vr.o, .string vr.nm, .slice vr.A vr.ll vr.cap, .int .i64 vr.p]] w (JnP S op L R w) := by
  have HL := Lib.hid hl
  have HR := Lib.hid hr
  clear hl hr
  go_enter Tryz.func107, Tryz.ntmps107
  go_wp2
  refine bodyPost_ret (v := .agg #[.string ⟨op.toArray⟩, .string ⟨#[]⟩, .slice (some ⟨w.heap.size + 1 + 1 + 1, 0, none⟩) 2 2, .int .i64 vl.p]) (by simp [results, Tryz.results107, go_sem]) rfl ⟨⟨⟨op.toArray⟩, ⟨#[]⟩, some ⟨w.heap.size + 1 + 1 + 1, 0, none⟩, 2, 2, vl.p⟩, rfl, ?_, ((((Below.refl _ _).alloc (Nat.le_refl _) _).alloc (by simp) _).alloc (by simp; omega) _).alloc (by simp; omega) _⟩
  refine fo_bin ?_ ?_ (hS _ (by omega)) (heap_new_at (by simp) _)
  · exact (((HL.out.alloc _).alloc _).alloc _).alloc _
  · exact (((HR.out.alloc _).alloc _).alloc _).alloc _
set_option maxHeartbeats 1000000 in
theorem pdeeper_no (w : World) (h : PRd w xb rb b 0 st) (f : FuncId) (cap : Array Value) : Calls Tryz.prog 108 #[.pointer (some ⟨xb, 0, none⟩), .func (.func f) cap #[]] w (FmP xb rb b 0 (deepS st) w) := by
  obtain ⟨v, c0, c1, c2, z0, z2, hv⟩ := h.cells
  have hx := h.ltx
  have hne := World.new_ne w ⟨xb, 1, none⟩ c1
  have H := Lib.hid h
  clear h hv
  go_enter Tryz.func108, Tryz.ntmps108
  go_wp2_with fail
  refine calls_gen (P := fun W => PRd W xb rb b 0 st ∧ Bx W w.heap.size 27 zc4 ∧ Fx (X2 xb rb) w W) ⟨H.out.alloc _, Bx.new w 27 zc4, (Fx.refl _ _).alloc _⟩ ?_
  rintro W ⟨hM, hB, hF⟩
  refine (pfail_any 21 W hM).mono ?_
  rintro e w1 ⟨rfl, hM1, hF1⟩
  have hB1 := hB.fx hF1 (H.out.n2 (Nat.le_refl _))
  have HB1 := Lib.hid hB1
  have HM1 := Lib.hid hM1
  have HF1 := Lib.hid (hF.trans hF1)
  obtain ⟨b0, b1, b2, b3⟩ := Bx.cells4 hB1
  obtain ⟨y0, y1, y2, y3⟩ := Bx.frozen4 hB1
  have hs1 := hB1.lt
  clear hM hB hF hM1 hF1 hB1 c0 c1 c2 z0 z2
  go_wp2
  obtain ⟨d0, d1, d2, d3⟩ := (Bx.set4 (x0 := .string ⟨#[]⟩) (x1 := .string ⟨#[]⟩) (x2 := .slice none 0 0) (x3 := .int .i64 0) HB1.out).cells4
  refine bodyPost_ret (v := .agg #[.string ⟨#[]⟩, .string ⟨#[]⟩, .slice none 0 0, .int .i64 0]) (by simp [results, Tryz.results108, go_sem, d0, d1, d2, d3]) rfl ⟨fv0, rfl, trivial, ?_, ?_⟩
  · exact HM1.out.set4 HB1.out (H.out.lo2)
  · exact HF1.out.set4 (.inl (Nat.le_refl _))
set_option maxHeartbeats 1000000 in
theorem pdeeper_pform {l : Nat} {F : St → RF} (hF : RFC 42 F l) : DFC 42 F (l + 1) := by
  intro xb rb b st w h
  obtain ⟨v, c0, c1, c2, z0, z2, hv⟩ := h.cells
  have hx := h.ltx
  have z1 : w.frozen? ⟨xb, 1, none⟩ = false := by obtain ⟨v, hb, _⟩ := h.blk; exact hb.frozen 1
  have hl : l ≤ 63 := by have := h.d64; omega
  have g0 : (((l + 1 : Nat) : Int) == 0) = false := by rw [beq_eq_false_iff_ne]; omega
  have hne := World.new_ne w ⟨xb, 1, none⟩ c1
  have H := Lib.hid h
  have HF := Lib.hid hF
  clear h hv hF
  go_enter Tryz.func108, Tryz.ntmps108
  go_wp2_with fail
  refine calls_gen (P := fun W => PRd W xb rb b l st ∧ Bx W w.heap.size 27 zc4 ∧ Fx (X2 xb rb) w W) ⟨(H.out.lev (by omega) rfl).alloc _, ?_, ((Fx.refl _ _).setCell (p := ⟨xb, 1, none⟩) (.inr (.inl rfl)) _).alloc _⟩ ?_
  · exact Bx.newAt (by simp) 27 zc4
  rintro W ⟨hM, hB, hF⟩
  refine (HF.out xb rb b st W hM).mono ?_
  rintro e w1 ⟨v1, rfl, hO, hM1, hF1⟩
  have hs := hB.lt
  have hB1 := hB.fx hF1 (H.out.n2 (Nat.le_refl _))
  have hs1 := hB1.lt
  have hW1 := hF1.size
  clear c0 c1 c2 z0 z1 z2
  obtain ⟨v', c0, c1, c2, z0, z2, _⟩ := hM1.cells
  have z1 : w1.frozen? ⟨xb, 1, none⟩ = false := by obtain ⟨v, hb, _⟩ := hM1.blk; exact hb.frozen 1
  have hx1 := hM1.ltx
  obtain ⟨y0, y1, y2, y3⟩ := Bx.frozen4 hB1
  obtain ⟨b0, b1, b2, b3⟩ := Bx.cells4 hB1
  have HB1 := Lib.hid hB1
  have HM1 := Lib.hid hM1
  have HO := Lib.hid hO
  have HF1 := Lib.hid (hF.trans hF1)
  clear hM hB hF hM1 hO hF1 hB1
  go_wp2
  have hE : ((l : Int) + 1) = ((l + 1 : Nat) : Int) := by omega
  have hBx := HB1.out.far (p := ⟨xb, 1, none⟩) hne (.int .i64 ((l : Int) + 1))
  obtain ⟨d0, d1, d2, d3⟩ := ((Bx.set4 (x0 := .string v1.o) (x1 := .string v1.nm) (x2 := .slice v1.A v1.ll v1.cap) (x3 := .int .i64 v1.p) hBx).alloc (.cells #[.string v1.o, .string v1.nm, .slice v1.A v1.ll v1.cap, .int .i64 v1.p] 27)).cells4
  refine bodyPost_ret (v := .agg #[.string v1.o, .string v1.nm, .slice v1.A v1.ll v1.cap, .int .i64 v1.p]) (by simp [results, Tryz.results108, go_sem, d0, d1, d2, d3]) rfl ⟨v1, rfl, ?_, ?_, ?_⟩
  · exact (((HO.out.set (.inl (by omega)) _).set4 (.inl (by omega))).alloc _).mono (by omega) (by simp)
  · exact ((HM1.out.lev (l := l + 1) (by omega) hE).set4 hBx (H.out.lo2)).alloc _
  · exact ((HF1.out.setCell (p := ⟨xb, 1, none⟩) (.inr (.inl rfl)) _).set4 (.inl (Nat.le_refl _))).alloc _
set_option maxHeartbeats 1000000 in
theorem pdeeper_puntil {l : Nat} {F : St → RF} (hF : RFC 138 F l) : DFC 138 F (l + 1) := by
  intro xb rb b st w h
  obtain ⟨v, c0, c1, c2, z0, z2, hv⟩ := h.cells
  have hx := h.ltx
  have z1 : w.frozen? ⟨xb, 1, none⟩ = false := by obtain ⟨v, hb, _⟩ := h.blk; exact hb.frozen 1
  have hl : l ≤ 63 := by have := h.d64; omega
  have g0 : (((l + 1 : Nat) : Int) == 0) = false := by rw [beq_eq_false_iff_ne]; omega
  have hne := World.new_ne w ⟨xb, 1, none⟩ c1
  have H := Lib.hid h
  have HF := Lib.hid hF
  clear h hv hF
  go_enter Tryz.func108, Tryz.ntmps108
  go_wp2_with fail
  refine calls_gen (P := fun W => PRd W xb rb b l st ∧ Bx W w.heap.size 27 zc4 ∧ Fx (X2 xb rb) w W) ⟨(H.out.lev (by omega) rfl).alloc _, ?_, ((Fx.refl _ _).setCell (p := ⟨xb, 1, none⟩) (.inr (.inl rfl)) _).alloc _⟩ ?_
  · exact Bx.newAt (by simp) 27 zc4
  rintro W ⟨hM, hB, hF⟩
  refine (HF.out xb rb b st W hM).mono ?_
  rintro e w1 ⟨v1, rfl, hO, hM1, hF1⟩
  have hs := hB.lt
  have hB1 := hB.fx hF1 (H.out.n2 (Nat.le_refl _))
  have hs1 := hB1.lt
  have hW1 := hF1.size
  clear c0 c1 c2 z0 z1 z2
  obtain ⟨v', c0, c1, c2, z0, z2, _⟩ := hM1.cells
  have z1 : w1.frozen? ⟨xb, 1, none⟩ = false := by obtain ⟨v, hb, _⟩ := hM1.blk; exact hb.frozen 1
  have hx1 := hM1.ltx
  obtain ⟨y0, y1, y2, y3⟩ := Bx.frozen4 hB1
  obtain ⟨b0, b1, b2, b3⟩ := Bx.cells4 hB1
  have HB1 := Lib.hid hB1
  have HM1 := Lib.hid hM1
  have HO := Lib.hid hO
  have HF1 := Lib.hid (hF.trans hF1)
  clear hM hB hF hM1 hO hF1 hB1
  go_wp2
  have hE : ((l : Int) + 1) = ((l + 1 : Nat) : Int) := by omega
  have hBx := HB1.out.far (p := ⟨xb, 1, none⟩) hne (.int .i64 ((l : Int) + 1))
  obtain ⟨d0, d1, d2, d3⟩ := ((Bx.set4 (x0 := .string v1.o) (x1 := .string v1.nm) (x2 := .slice v1.A v1.ll v1.cap) (x3 := .int .i64 v1.p) hBx).alloc (.cells #[.string v1.o, .string v1.nm, .slice v1.A v1.ll v1.cap, .int .i64 v1.p] 27)).cells4
  refine bodyPost_ret (v := .agg #[.string v1.o, .string v1.nm, .slice v1.A v1.ll v1.cap, .int .i64 v1.p]) (by simp [results, Tryz.results108, go_sem, d0, d1, d2, d3]) rfl ⟨v1, rfl, ?_, ?_, ?_⟩
  · exact (((HO.out.set (.inl (by omega)) _).set4 (.inl (by omega))).alloc _).mono (by omega) (by simp)
  · exact ((HM1.out.lev (l := l + 1) (by omega) hE).set4 hBx (H.out.lo2)).alloc _
  · exact ((HF1.out.setCell (p := ⟨xb, 1, none⟩) (.inr (.inl rfl)) _).set4 (.inl (Nat.le_refl _))).alloc _
set_option maxHeartbeats 1000000 in
theorem pdeeper_ppref {l : Nat} {F : St → RF} (hF : RFC 166 F l) : DFC 166 F (l + 1) := by
  intro xb rb b st w h
  obtain ⟨v, c0, c1, c2, z0, z2, hv⟩ := h.cells
  have hx := h.ltx
  have z1 : w.frozen? ⟨xb, 1, none⟩ = false := by obtain ⟨v, hb, _⟩ := h.blk; exact hb.frozen 1
  have hl : l ≤ 63 := by have := h.d64; omega
  have g0 : (((l + 1 : Nat) : Int) == 0) = false := by rw [beq_eq_false_iff_ne]; omega
  have hne := World.new_ne w ⟨xb, 1, none⟩ c1
  have H := Lib.hid h
  have HF := Lib.hid hF
  clear h hv hF
  go_enter Tryz.func108, Tryz.ntmps108
  go_wp2_with fail
  refine calls_gen (P := fun W => PRd W xb rb b l st ∧ Bx W w.heap.size 27 zc4 ∧ Fx (X2 xb rb) w W) ⟨(H.out.lev (by omega) rfl).alloc _, ?_, ((Fx.refl _ _).setCell (p := ⟨xb, 1, none⟩) (.inr (.inl rfl)) _).alloc _⟩ ?_
  · exact Bx.newAt (by simp) 27 zc4
  rintro W ⟨hM, hB, hF⟩
  refine (HF.out xb rb b st W hM).mono ?_
  rintro e w1 ⟨v1, rfl, hO, hM1, hF1⟩
  have hs := hB.lt
  have hB1 := hB.fx hF1 (H.out.n2 (Nat.le_refl _))
  have hs1 := hB1.lt
  have hW1 := hF1.size
  clear c0 c1 c2 z0 z1 z2
  obtain ⟨v', c0, c1, c2, z0, z2, _⟩ := hM1.cells
  have z1 : w1.frozen? ⟨xb, 1, none⟩ = false := by obtain ⟨v, hb, _⟩ := hM1.blk; exact hb.frozen 1
  have hx1 := hM1.ltx
  obtain ⟨y0, y1, y2, y3⟩ := Bx.frozen4 hB1
  obtain ⟨b0, b1, b2, b3⟩ := Bx.cells4 hB1
  have HB1 := Lib.hid hB1
  have HM1 := Lib.hid hM1
  have HO := Lib.hid hO
  have HF1 := Lib.hid (hF.trans hF1)
  clear hM hB hF hM1 hO hF1 hB1
  go_wp2
  have hE : ((l : Int) + 1) = ((l + 1 : Nat) : Int) := by omega
  have hBx := HB1.out.far (p := ⟨xb, 1, none⟩) hne (.int .i64 ((l : Int) + 1))
  obtain ⟨d0, d1, d2, d3⟩ := ((Bx.set4 (x0 := .string v1.o) (x1 := .string v1.nm) (x2 := .slice v1.A v1.ll v1.cap) (x3 := .int .i64 v1.p) hBx).alloc (.cells #[.string v1.o, .string v1.nm, .slice v1.A v1.ll v1.cap, .int .i64 v1.p] 27)).cells4
  refine bodyPost_ret (v := .agg #[.string v1.o, .string v1.nm, .slice v1.A v1.ll v1.cap, .int .i64 v1.p]) (by simp [results, Tryz.results108, go_sem, d0, d1, d2, d3]) rfl ⟨v1, rfl, ?_, ?_, ?_⟩
  · exact (((HO.out.set (.inl (by omega)) _).set4 (.inl (by omega))).alloc _).mono (by omega) (by simp)
  · exact ((HM1.out.lev (l := l + 1) (by omega) hE).set4 hBx (H.out.lo2)).alloc _
  · exact ((HF1.out.setCell (p := ⟨xb, 1, none⟩) (.inr (.inl rfl)) _).set4 (.inl (Nat.le_refl _))).alloc _
end
end
section
open Go.RowKit

section
variable {xb rb b D : Nat} {st : St}
/-- From behind the result's box on, but for the box of what has been read. -/
def Sx (W w1 : World) (j : Nat) : Prop := W.heap.size + 1 ≤ j ∧ j ≠ w1.heap.size
theorem sx_top {W w1 w3 : World} (h1 : W.heap.size ≤ w1.heap.size) (h2 : w1.heap.size < w3.heap.size) {j : Nat} (hj : w3.heap.size ≤ j) : Sx W w1 j := by unfold Sx; omega
theorem arm1 {w W w1 w2 w3 : World} {L R : Option Fo} {v1 v3 : FV} (H : PRd w xb rb b D st) (hs : w.heap.size < W.heap.size) (hW1 : W.heap.size ≤ w1.heap.size) (hz : w1.heap.size < w2.heap.size) (HE3 : Bx w2 w1.heap.size 27 v1.c) (HB3 : Bx w2 w.heap.size 27 zc4) (HO3 : FOS w2 (Sx W w1) L v1) (HF3 : Fx (X2 xb rb) w w2)
    (hO4 : FO w3 (w2.drew.heap.size + 1) w3.heap.size R v3) (hF4 : Fx (X2 xb rb) w2.drew w3) : Bx w3 w1.heap.size 27 v1.c ∧ Bx w3 w.heap.size 27 zc4 ∧ FOS w3 (Sx W w1) L v1 ∧ FOS w3 (Sx W w1) R v3 ∧ Fx (X2 xb rb) w w3 ∧ w2.heap.size ≤ w3.heap.size := by
  have hz3 : w2.heap.size ≤ w3.heap.size := hF4.size
  have e1 : w2.drew.heap.size = w2.heap.size := rfl
  refine ⟨Bx.fx (w := w2.drew) HE3 hF4 (H.n2 (by omega)), Bx.fx (w := w2.drew) HB3 hF4 (H.n2 (Nat.le_refl _)), HO3.drew.fx hF4 (fun j hj => H.n2 (by unfold Sx at hj; omega)), hO4.wide (fun j _ hj => ?_), HF3.drew.trans hF4, hz3⟩
  unfold Rg at hj
  unfold Sx
  omega
set_option maxHeartbeats 4000000 in
set_option maxRecDepth 100000 in
theorem pright_pdisj {k : Nat} {F B : St → RF} (hF : RFC 69 F D) (hB : DFC 42 B D) (w : World) (h : PRd w xb rb b D st) :
    Calls Tryz.prog 68 #[.pointer (some ⟨xb, 0, none⟩), .int .i64 (k : Int), .func (.func 69) #[.pointer (some ⟨xb, 0, none⟩)] #[], .func (.func 42) #[.pointer (some ⟨xb, 0, none⟩)] #[]] w (FmP xb rb b D (rightS k F B st) w) := by
  have H := Lib.hid h
  have HF := Lib.hid hF
  have HD := Lib.hid hB
  clear h hF hB
  go_enter Tryz.func68, Tryz.ntmps68
  go_wp2_with fail
  refine calls_gen (P := fun W => PRd W xb rb b D st ∧ Bx W w.heap.size 27 zc4 ∧ Fx (X2 xb rb) w W) ⟨H.out.alloc _, Bx.new w 27 zc4, (Fx.refl _ _).alloc _⟩ ?_
  rintro W ⟨hM, hB, hF⟩
  refine (HF.out xb rb b st W hM).mono ?_
  rintro e w1 ⟨v1, rfl, hO, hM1, hF1⟩
  have hs := hB.lt
  have hB1 := hB.fx hF1 (H.out.n2 (Nat.le_refl _))
  have hW1 := hF1.size
  have hs1 := hB1.lt
  have HB1 := Lib.hid hB1
  have HM1 := Lib.hid hM1
  have HO := Lib.hid hO
  have HF1 := Lib.hid (hF.trans hF1)
  have hnq : w.heap.size ≠ w1.heap.size := by omega
  clear hM hB hF hM1 hO hF1 hB1
  go_wp2_with fail
  refine calls_gen (P := fun W1 => PRd W1 xb rb b D (F st).2 ∧ Bx W1 w1.heap.size 27 v1.c ∧ Bx W1 w.heap.size 27 zc4 ∧ FO W1 (W.heap.size + 1) w1.heap.size (F st).1 v1 ∧ Fx (X2 xb rb) w W1 ∧ w1.heap.size < W1.heap.size) ⟨HM1.out.alloc _, Bx.new w1 27 v1.c, HB1.out.alloc _, HO.out.alloc _, HF1.out.alloc _, by simp⟩ ?_
  rintro W1 ⟨hM2, hE2, hB2, hO2, hF2, hz⟩
  cases hsp : sp k (F st).2.hd with
  | false =>
    have HR := Lib.hid (show rightS k F B st = F st by unfold rightS; rw [if_neg (by rw [hsp]; simp)])
    refine (psign_no W1 hM2 hsp).mono ?_
    rintro e w2 ⟨rfl, hb⟩
    have hB3 := hB2.below hb
    have hE3 := hE2.below hb
    obtain ⟨e0, e1, e2, e3⟩ := Bx.cells4 hE3
    obtain ⟨y0, y1, y2, y3⟩ := Bx.frozen4 hB3
    obtain ⟨b0, b1, b2, b3⟩ := Bx.cells4 hB3
    have hl3 := hB3.lt
    have hl4 := hE3.lt
    have HB3 := Lib.hid hB3
    have HO3 := Lib.hid (hO2.below hb)
    have HM3 := Lib.hid (hM2.below hb)
    have HF3 := Lib.hid (hF2.on hb)
    clear hM2 hE2 hB2 hO2 hF2 hb hB3 hE3 hsp
    go_wp2
    obtain ⟨d0, d1, d2, d3⟩ := (Bx.set4 (x0 := .string v1.o) (x1 := .string v1.nm) (x2 := .slice v1.A v1.ll v1.cap) (x3 := .int .i64 v1.p) HB3.out).cells4
    rw [HR.out]
    refine bodyPost_ret (v := .agg #[.string v1.o, .string v1.nm, .slice v1.A v1.ll v1.cap, .int .i64 v1.p]) (by simp [results, Tryz.results68, go_sem, d0, d1, d2, d3]) rfl ⟨v1, rfl, ?_, ?_, ?_⟩
    · exact (HO3.out.set4 (.inl (by omega))).mono (by omega) (by simp; omega)
    · exact HM3.out.set4 HB3.out (H.out.lo2)
    · exact HF3.out.set4 (.inl (Nat.le_refl _))
  | true =>
    have HR := Lib.hid (show rightS k F B st = (binO (F st).2.hd.text (F st).1 (B (F st).2.tl).1, (B (F st).2.tl).2) by unfold rightS; rw [if_pos hsp])
    refine (psign_yes W1 hM2 hsp).mono ?_
    rintro e w2 ⟨rfl, hM3, hF3⟩
    have hz2 := hF3.size
    have hB3 := hB2.fx hF3 (H.out.n2 (Nat.le_refl _))
    have hE3 := hE2.fx hF3 (H.out.n2 (by omega))
    obtain ⟨e0, e1, e2, e3⟩ := Bx.cells4 hE3
    have hl4 := hE3.lt
    have HB3 := Lib.hid hB3
    have HE3 := Lib.hid hE3
    have HO3 := Lib.hid (show FOS w2 (Sx W w1) (F st).1 v1 from (hO2.fx hF3 (fun j hj => by have := H.out.n2 (q := j) (by unfold Rg at hj; omega); exact this)).wide (fun j _ hj => by unfold Rg at hj; unfold Sx; omega))
    have HM3 := Lib.hid hM3
    have HF3 := Lib.hid (hF2.trans hF3)
    clear hM2 hE2 hB2 hO2 hF2 hM3 hF3 hB3 hE3 hsp
    go_wp2_with fail
    go_region_law (first
      | (go_simp
         go_at_call 108
         refine (HD.out xb rb b _ _ HM3.out.drew).mono ?_
         rintro e w3 ⟨v3, rfl, hO4, hM4, hF4⟩
         obtain ⟨hE4, hB4, hO5, hO6, hF5, hz3⟩ := arm1 H.out hs hW1 (by omega) HE3.out HB3.out HO3.out HF3.out hO4 hF4
         have HE4 := Lib.hid hE4
         have HB4 := Lib.hid hB4
         have HO4 := Lib.hid hO5
         have HO5 := Lib.hid hO6
         have HM4 := Lib.hid hM4
         have HF4 := Lib.hid hF5
         obtain ⟨e0, e1, e2, e3⟩ := Bx.cells4 hE4
         have hl5 := hE4.lt
         clear hO4 hM4 hF4 hE4 hB4 hO5 hO6 hF5)
      | (go_simp
         go_at_call 107
         refine (pjoined_any (S := Sx W w1) _ w3 HO4.out HO5.out (fun j hj => sx_top hW1 hl5 hj)).mono ?_
         rintro e w4 ⟨v4, rfl, hO6, hb4⟩
         have hz4 := hb4.size
         have hE5 := HE4.out.below hb4
         have hB5 := HB4.out.below hb4
         have HE5 := Lib.hid hE5
         have HB5 := Lib.hid hB5
         have HO6 := Lib.hid hO6
         have HM5 := Lib.hid (HM4.out.below hb4)
         have HF5 := Lib.hid (HF4.out.on hb4)
         obtain ⟨e0, e1, e2, e3⟩ := Bx.cells4 hE5
         obtain ⟨x0, x1, x2, x3⟩ := Bx.frozen4 hE5
         obtain ⟨b0, b1, b2, b3⟩ := Bx.cells4 hB5
         obtain ⟨y0, y1, y2, y3⟩ := Bx.frozen4 hB5
         have hl6 := hE5.lt
         have hl7 := hB5.lt
         clear hO6 hb4 hE5 hB5))
    all_goals
      have hE6 := Bx.set4 (x0 := .string v4.o) (x1 := .string v4.nm) (x2 := .slice v4.A v4.ll v4.cap) (x3 := .int .i64 v4.p) HE5.out
      have hB6 := Bx.far4 (x0 := .string v4.o) (x1 := .string v4.nm) (x2 := .slice v4.A v4.ll v4.cap) (x3 := .int .i64 v4.p) HB5.out hnq
      have HM6 := Lib.hid (HM5.out.set4 (x0 := .string v4.o) (x1 := .string v4.nm) (x2 := .slice v4.A v4.ll v4.cap) (x3 := .int .i64 v4.p) HE5.out (by have := H.out.lo2; omega))
      have HO7 := Lib.hid (HO6.out.setS4 (q := w1.heap.size) (x0 := .string v4.o) (x1 := .string v4.nm) (x2 := .slice v4.A v4.ll v4.cap) (x3 := .int .i64 v4.p) (by unfold Sx; omega))
      have HF6 := Lib.hid (HF5.out.set4 (q := w1.heap.size) (x0 := .string v4.o) (x1 := .string v4.nm) (x2 := .slice v4.A v4.ll v4.cap) (x3 := .int .i64 v4.p) (.inl (by omega)))
      clear e0 e1 e2 e3 x0 x1 x2 x3 b0 b1 b2 b3 y0 y1 y2 y3
      obtain ⟨e0, e1, e2, e3⟩ := Bx.cells4 hE6
      obtain ⟨x0, x1, x2, x3⟩ := Bx.frozen4 HE5.out
      obtain ⟨f0, f1, f2, f3⟩ := Bx.cells4 HE5.out
      obtain ⟨b0, b1, b2, b3⟩ := Bx.cells4 hB6
      obtain ⟨y0, y1, y2, y3⟩ := Bx.frozen4 hB6
      have HB6 := Lib.hid hB6
      clear hE6 hB6
      go_wp2
      obtain ⟨d0, d1, d2, d3⟩ := (Bx.set4 (x0 := .string v4.o) (x1 := .string v4.nm) (x2 := .slice v4.A v4.ll v4.cap) (x3 := .int .i64 v4.p) HB6.out).cells4
      rw [HR.out]
      refine bodyPost_ret (v := .agg #[.string v4.o, .string v4.nm, .slice v4.A v4.ll v4.cap, .int .i64 v4.p]) (by simp [results, Tryz.results68, go_sem, d0, d1, d2, d3]) rfl ⟨v4, rfl, ?_, ?_, ?_⟩
      · exact (HO7.out.setS4 (by unfold Sx; omega)).wide (fun j hj hS => by unfold Sx at hS; unfold Rg; omega)
      · exact HM6.out.set4 HB6.out (H.out.lo2)
      · exact HF6.out.set4 (.inl (Nat.le_refl _))
set_option maxHeartbeats 4000000 in
set_option maxRecDepth 100000 in
theorem pright_ppref {k : Nat} {F B : St → RF} (hF : RFC 166 F D) (hB : DFC 138 B D) (w : World) (h : PRd w xb rb b D st) :
    Calls Tryz.prog 68 #[.pointer (some ⟨xb, 0, none⟩), .int .i64 (k : Int), .func (.func 166) #[.pointer (some ⟨xb, 0, none⟩)] #[], .func (.func 138) #[.pointer (some ⟨xb, 0, none⟩)] #[]] w (FmP xb rb b D (rightS k F B st) w) := by
  have H := Lib.hid h
  have HF := Lib.hid hF
  have HD := Lib.hid hB
  clear h hF hB
  go_enter Tryz.func68, Tryz.ntmps68
  go_wp2_with fail
  refine calls_gen (P := fun W => PRd W xb rb b D st ∧ Bx W w.heap.size 27 zc4 ∧ Fx (X2 xb rb) w W) ⟨H.out.alloc _, Bx.new w 27 zc4, (Fx.refl _ _).alloc _⟩ ?_
  rintro W ⟨hM, hB, hF⟩
  refine (HF.out xb rb b st W hM).mono ?_
  rintro e w1 ⟨v1, rfl, hO, hM1, hF1⟩
  have hs := hB.lt
  have hB1 := hB.fx hF1 (H.out.n2 (Nat.le_refl _))
  have hW1 := hF1.size
  have hs1 := hB1.lt
  have HB1 := Lib.hid hB1
  have HM1 := Lib.hid hM1
  have HO := Lib.hid hO
  have HF1 := Lib.hid (hF.trans hF1)
  have hnq : w.heap.size ≠ w1.heap.size := by omega
  clear hM hB hF hM1 hO hF1 hB1
  go_wp2_with fail
  refine calls_gen (P := fun W1 => PRd W1 xb rb b D (F st).2 ∧ Bx W1 w1.heap.size 27 v1.c ∧ Bx W1 w.heap.size 27 zc4 ∧ FO W1 (W.heap.size + 1) w1.heap.size (F st).1 v1 ∧ Fx (X2 xb rb) w W1 ∧ w1.heap.size < W1.heap.size) ⟨HM1.out.alloc _, Bx.new w1 27 v1.c, HB1.out.alloc _, HO.out.alloc _, HF1.out.alloc _, by simp⟩ ?_
  rintro W1 ⟨hM2, hE2, hB2, hO2, hF2, hz⟩
  cases hsp : sp k (F st).2.hd with
  | false =>
    have HR := Lib.hid (show rightS k F B st = F st by unfold rightS; rw [if_neg (by rw [hsp]; simp)])
    refine (psign_no W1 hM2 hsp).mono ?_
    rintro e w2 ⟨rfl, hb⟩
    have hB3 := hB2.below hb
    have hE3 := hE2.below hb
    obtain ⟨e0, e1, e2, e3⟩ := Bx.cells4 hE3
    obtain ⟨y0, y1, y2, y3⟩ := Bx.frozen4 hB3
    obtain ⟨b0, b1, b2, b3⟩ := Bx.cells4 hB3
    have hl3 := hB3.lt
    have hl4 := hE3.lt
    have HB3 := Lib.hid hB3
    have HO3 := Lib.hid (hO2.below hb)
    have HM3 := Lib.hid (hM2.below hb)
    have HF3 := Lib.hid (hF2.on hb)
    clear hM2 hE2 hB2 hO2 hF2 hb hB3 hE3 hsp
    go_wp2
    obtain ⟨d0, d1, d2, d3⟩ := (Bx.set4 (x0 := .string v1.o) (x1 := .string v1.nm) (x2 := .slice v1.A v1.ll v1.cap) (x3 := .int .i64 v1.p) HB3.out).cells4
    rw [HR.out]
    refine bodyPost_ret (v := .agg #[.string v1.o, .string v1.nm, .slice v1.A v1.ll v1.cap, .int .i64 v1.p]) (by simp [results, Tryz.results68, go_sem, d0, d1, d2, d3]) rfl ⟨v1, rfl, ?_, ?_, ?_⟩
    · exact (HO3.out.set4 (.inl (by omega))).mono (by omega) (by simp; omega)
    · exact HM3.out.set4 HB3.out (H.out.lo2)
    · exact HF3.out.set4 (.inl (Nat.le_refl _))
  | true =>
    have HR := Lib.hid (show rightS k F B st = (binO (F st).2.hd.text (F st).1 (B (F st).2.tl).1, (B (F st).2.tl).2) by unfold rightS; rw [if_pos hsp])
    refine (psign_yes W1 hM2 hsp).mono ?_
    rintro e w2 ⟨rfl, hM3, hF3⟩
    have hz2 := hF3.size
    have hB3 := hB2.fx hF3 (H.out.n2 (Nat.le_refl _))
    have hE3 := hE2.fx hF3 (H.out.n2 (by omega))
    obtain ⟨e0, e1, e2, e3⟩ := Bx.cells4 hE3
    have hl4 := hE3.lt
    have HB3 := Lib.hid hB3
    have HE3 := Lib.hid hE3
    have HO3 := Lib.hid (show FOS w2 (Sx W w1) (F st).1 v1 from (hO2.fx hF3 (fun j hj => by have := H.out.n2 (q := j) (by unfold Rg at hj; omega); exact this)).wide (fun j _ hj => by unfold Rg at hj; unfold Sx; omega))
    have HM3 := Lib.hid hM3
    have HF3 := Lib.hid (hF2.trans hF3)
    clear hM2 hE2 hB2 hO2 hF2 hM3 hF3 hB3 hE3 hsp
    go_wp2_with fail
    go_region_law (first
      | (go_simp
         go_at_call 108
         refine (HD.out xb rb b _ _ HM3.out.drew).mono ?_
         rintro e w3 ⟨v3, rfl, hO4, hM4, hF4⟩
         obtain ⟨hE4, hB4, hO5, hO6, hF5, hz3⟩ := arm1 H.out hs hW1 (by omega) HE3.out HB3.out HO3.out HF3.out hO4 hF4
         have HE4 := Lib.hid hE4
         have HB4 := Lib.hid hB4
         have HO4 := Lib.hid hO5
         have HO5 := Lib.hid hO6
         have HM4 := Lib.hid hM4
         have HF4 := Lib.hid hF5
         obtain ⟨e0, e1, e2, e3⟩ := Bx.cells4 hE4
         have hl5 := hE4.lt
         clear hO4 hM4 hF4 hE4 hB4 hO5 hO6 hF5)
      | (go_simp
         go_at_call 107
         refine (pjoined_any (S := Sx W w1) _ w3 HO4.out HO5.out (fun j hj => sx_top hW1 hl5 hj)).mono ?_
         rintro e w4 ⟨v4, rfl, hO6, hb4⟩
         have hz4 := hb4.size
         have hE5 := HE4.out.below hb4
         have hB5 := HB4.out.below hb4
         have HE5 := Lib.hid hE5
         have HB5 := Lib.hid hB5
         have HO6 := Lib.hid hO6
         have HM5 := Lib.hid (HM4.out.below hb4)
         have HF5 := Lib.hid (HF4.out.on hb4)
         obtain ⟨e0, e1, e2, e3⟩ := Bx.cells4 hE5
         obtain ⟨x0, x1, x2, x3⟩ := Bx.frozen4 hE5
         obtain ⟨b0, b1, b2, b3⟩ := Bx.cells4 hB5
         obtain ⟨y0, y1, y2, y3⟩ := Bx.frozen4 hB5
         have hl6 := hE5.lt
         have hl7 := hB5.lt
         clear hO6 hb4 hE5 hB5))
    all_goals
      have hE6 := Bx.set4 (x0 := .string v4.o) (x1 := .string v4.nm) (x2 := .slice v4.A v4.ll v4.cap) (x3 := .int .i64 v4.p) HE5.out
      have hB6 := Bx.far4 (x0 := .string v4.o) (x1 := .string v4.nm) (x2 := .slice v4.A v4.ll v4.cap) (x3 := .int .i64 v4.p) HB5.out hnq
      have HM6 := Lib.hid (HM5.out.set4 (x0 := .string v4.o) (x1 := .string v4.nm) (x2 := .slice v4.A v4.ll v4.cap) (x3 := .int .i64 v4.p) HE5.out (by have := H.out.lo2; omega))
      have HO7 := Lib.hid (HO6.out.setS4 (q := w1.heap.size) (x0 := .string v4.o) (x1 := .string v4.nm) (x2 := .slice v4.A v4.ll v4.cap) (x3 := .int .i64 v4.p) (by unfold Sx; omega))
      have HF6 := Lib.hid (HF5.out.set4 (q := w1.heap.size) (x0 := .string v4.o) (x1 := .string v4.nm) (x2 := .slice v4.A v4.ll v4.cap) (x3 := .int .i64 v4.p) (.inl (by omega)))
      clear e0 e1 e2 e3 x0 x1 x2 x3 b0 b1 b2 b3 y0 y1 y2 y3
      obtain ⟨e0, e1, e2, e3⟩ := Bx.cells4 hE6
      obtain ⟨x0, x1, x2, x3⟩ := Bx.frozen4 HE5.out
      obtain ⟨f0, f1, f2, f3⟩ := Bx.cells4 HE5.out
      obtain ⟨b0, b1, b2, b3⟩ := Bx.cells4 hB6
      obtain ⟨y0, y1, y2, y3⟩ := Bx.frozen4 hB6
      have HB6 := Lib.hid hB6
      clear hE6 hB6
      go_wp2
      obtain ⟨d0, d1, d2, d3⟩ := (Bx.set4 (x0 := .string v4.o) (x1 := .string v4.nm) (x2 := .slice v4.A v4.ll v4.cap) (x3 := .int .i64 v4.p) HB6.out).cells4
      rw [HR.out]
      refine bodyPost_ret (v := .agg #[.string v4.o, .string v4.nm, .slice v4.A v4.ll v4.cap, .int .i64 v4.p]) (by simp [results, Tryz.results68, go_sem, d0, d1, d2, d3]) rfl ⟨v4, rfl, ?_, ?_, ?_⟩
      · exact (HO7.out.setS4 (by unfold Sx; omega)).wide (fun j hj hS => by unfold Sx at hS; unfold Rg; omega)
      · exact HM6.out.set4 HB6.out (H.out.lo2)
      · exact HF6.out.set4 (.inl (Nat.le_refl _))
end
end
section
open Go.RowKit

section
variable {xb rb b D : Nat} {st : St}
/-- What the rounds of a chain to the left keep. -/
def LfRel (xb rb b D k : Nat) (F : St → RF) (tot : RF) (w W w1 : World) (gk : Nat) (opv okv : Value) (wr : World) : Prop :=
  ∃ (r : RF) (v : FV), tot = leftF k F r.2.len r ∧ FOS wr (Sx W w1) r.1 v ∧ Bx wr w1.heap.size 27 v.c ∧ Bx wr w.heap.size 27 zc4 ∧ Fx (X2 xb rb) w wr ∧ gk = r.2.len ∧
    ((sp k r.2.hd = true ∧ opv = .string ⟨r.2.hd.text.toArray⟩ ∧ okv = .bool true ∧ PRd wr xb rb b D r.2.tl) ∨ (sp k r.2.hd = false ∧ opv = .string ⟨#[]⟩ ∧ okv = .bool false ∧ PRd wr xb rb b D r.2))
set_option maxHeartbeats 4000000 in
set_option maxRecDepth 100000 in
theorem pleft_pconj {k : Nat} {F : St → RF} (hR : Rok F) (hF : RFC 110 F D) (w : World) (h : PRd w xb rb b D st) :
    Calls Tryz.prog 109 #[.pointer (some ⟨xb, 0, none⟩), .int .i64 (k : Int), .func (.func 110) #[.pointer (some ⟨xb, 0, none⟩)] #[]] w (FmP xb rb b D (leftS k F st) w) := by
  have H := Lib.hid h
  have HF := Lib.hid hF
  have HRK := Lib.hid hR
  obtain ⟨tot, htot⟩ : ∃ tot, tot = leftS k F st := ⟨_, rfl⟩
  rw [← htot]
  have HT := Lib.hid htot
  clear h hF hR htot
  go_enter Tryz.func109, Tryz.ntmps109
  go_wp2_with fail
  refine calls_gen (P := fun W => PRd W xb rb b D st ∧ Bx W w.heap.size 27 zc4 ∧ Fx (X2 xb rb) w W) ⟨H.out.alloc _, Bx.new w 27 zc4, (Fx.refl _ _).alloc _⟩ ?_
  rintro W ⟨hM, hB, hF⟩
  refine (HF.out xb rb b st W hM).mono ?_
  rintro e w1 ⟨v1, rfl, hO, hM1, hF1⟩
  have hs := hB.lt
  have hB1 := hB.fx hF1 (H.out.n2 (Nat.le_refl _))
  have hW1 := hF1.size
  have hs1 := hB1.lt
  have HB1 := Lib.hid hB1
  have HM1 := Lib.hid hM1
  have HO := Lib.hid hO
  have HF1 := Lib.hid (hF.trans hF1)
  have hnq : w.heap.size ≠ w1.heap.size := by omega
  clear hM hB hF hM1 hO hF1 hB1
  go_wp2_with fail
  refine calls_gen (P := fun W1 => PRd W1 xb rb b D (F st).2 ∧ Bx W1 w1.heap.size 27 v1.c ∧ Bx W1 w.heap.size 27 zc4 ∧ FO W1 (W.heap.size + 1) w1.heap.size (F st).1 v1 ∧ Fx (X2 xb rb) w W1 ∧ w1.heap.size < W1.heap.size) ⟨HM1.out.alloc _, Bx.new w1 27 v1.c, HB1.out.alloc _, HO.out.alloc _, HF1.out.alloc _, by simp⟩ ?_
  rintro W1 ⟨hM2, hE2, hB2, hO2, hF2, hz⟩
  have HREL : Hid (∀ (e : Ending) (w2 : World) (opv okv : Value), (sp k (F st).2.hd = true ∧ opv = .string ⟨(F st).2.hd.text.toArray⟩ ∧ okv = .bool true ∧ PRd w2 xb rb b D (F st).2.tl ∨ sp k (F st).2.hd = false ∧ opv = .string ⟨#[]⟩ ∧ okv = .bool false ∧ PRd w2 xb rb b D (F st).2) → Fx (X2 xb rb) W1 w2 → LfRel xb rb b D k F tot w W w1 (F st).2.len opv okv w2) := Lib.hid (fun _ w2 opv okv h1 h2 =>
    ⟨F st, v1, HT.out, (hO2.fx h2 (fun j hj => H.out.n2 (by unfold Rg at hj; omega))).wide (fun j _ hj => by unfold Rg at hj; unfold Sx; omega), hE2.fx h2 (H.out.n2 (by omega)), hB2.fx h2 (H.out.n2 (Nat.le_refl _)), hF2.trans h2, rfl, h1⟩)
  obtain ⟨opv, okv, hok, hcall⟩ : ∃ (o : ByteArray) (q : Bool), (q = sp k (F st).2.hd) ∧ Calls Tryz.prog 106 #[.pointer (some ⟨xb, 0, none⟩), .int .i64 (k : Int)] W1 (fun e w' => e = .returned (.tuple #[.string o, .bool q]) ∧ LfRel xb rb b D k F tot w W w1 (F st).2.len (.string o) (.bool q) w') := by
    cases hsp : sp k (F st).2.hd with
    | true => exact ⟨_, true, rfl, (psign_yes W1 hM2 hsp).mono fun e w' ⟨h1, h2, h3⟩ => ⟨h1, HREL.out e w' _ _ (.inl ⟨hsp, rfl, rfl, h2⟩) h3⟩⟩
    | false => exact ⟨_, false, rfl, (psign_no W1 hM2 hsp).mono fun e w' ⟨h1, h2⟩ => ⟨h1, HREL.out e w' _ _ (.inr ⟨hsp, rfl, rfl, hM2.below h2⟩) (Fx.of h2)⟩⟩
  refine hcall.mono ?_
  rintro e w2 ⟨rfl, hr0⟩
  have HR0 := Lib.hid hr0
  clear hM2 hE2 hB2 hO2 hF2 hcall hr0 HREL hok
  go_wp2
  go_loopg [8, 9] (F st).2.len (fun gk a c wr => LfRel xb rb b D k F tot w W w1 gk a c wr)
  case atStart => exact HR0.out
  case round =>
    clear HR0
    obtain ⟨r, v, htot, hO, hE, hB, hF, rfl, hc⟩ := hrel
    have hl4 := hE.lt
    have HTT := Lib.hid htot
    have HE3 := Lib.hid hE
    have HB3 := Lib.hid hB
    have HO3 := Lib.hid hO
    have HF3 := Lib.hid hF
    rcases hc with ⟨hsp, rfl, rfl, hM⟩ | ⟨hsp, rfl, rfl, hM⟩
    · have HG := Lib.hid (left_go (r := r) HRK.out hsp)
      have HM3 := Lib.hid hM
      obtain ⟨e0, e1, e2, e3⟩ := Bx.cells4 hE
      clear htot hO hE hB hF hM hsp
      go_wp2_with fail
      go_region_law (first
        | (go_simp
           go_at_call 110
           refine (HF.out xb rb b _ _ HM3.out.drew).mono ?_
           rintro e w3 ⟨v3, rfl, hO4, hM4, hF4⟩
           obtain ⟨hE4, hB4, hO5, hO6, hF5, hz3⟩ := arm1 H.out hs hW1 hl4 HE3.out HB3.out HO3.out HF3.out hO4 hF4
           have HE4 := Lib.hid hE4
           have HB4 := Lib.hid hB4
           have HO4 := Lib.hid hO5
           have HO5 := Lib.hid hO6
           have HM4 := Lib.hid hM4
           have HF4 := Lib.hid hF5
           obtain ⟨e0, e1, e2, e3⟩ := Bx.cells4 hE4
           have hl5 := hE4.lt
           clear hO4 hM4 hF4 hE4 hB4 hO5 hO6 hF5)
        | (go_simp
           go_at_call 107
           refine (pjoined_any (S := Sx W w1) _ w3 HO4.out HO5.out (fun j hj => sx_top hW1 hl5 hj)).mono ?_
           rintro e w4 ⟨v4, rfl, hO6, hb4⟩
           have hz4 := hb4.size
           have hE5 := HE4.out.below hb4
           have HE5 := Lib.hid hE5
           have HB5 := Lib.hid (HB4.out.below hb4)
           have HO6 := Lib.hid hO6
           have HM5 := Lib.hid (HM4.out.below hb4)
           have HF5 := Lib.hid (HF4.out.on hb4)
           obtain ⟨e0, e1, e2, e3⟩ := Bx.cells4 hE5
           obtain ⟨x0, x1, x2, x3⟩ := Bx.frozen4 hE5
           have hl6 := hE5.lt
           clear hO6 hb4 hE5))
      all_goals
        go_wp2_with fail
        have HE6 := Lib.hid (Bx.set4 (x0 := .string v4.o) (x1 := .string v4.nm) (x2 := .slice v4.A v4.ll v4.cap) (x3 := .int .i64 v4.p) HE5.out)
        have HB6 := Lib.hid (Bx.far4 (x0 := .string v4.o) (x1 := .string v4.nm) (x2 := .slice v4.A v4.ll v4.cap) (x3 := .int .i64 v4.p) HB5.out hnq)
        have HM6 := Lib.hid (HM5.out.set4 (x0 := .string v4.o) (x1 := .string v4.nm) (x2 := .slice v4.A v4.ll v4.cap) (x3 := .int .i64 v4.p) HE5.out (by have := H.out.lo2; omega))
        have HO7 := Lib.hid (HO6.out.setS4 (q := w1.heap.size) (x0 := .string v4.o) (x1 := .string v4.nm) (x2 := .slice v4.A v4.ll v4.cap) (x3 := .int .i64 v4.p) (by unfold Sx; omega))
        have HF6 := Lib.hid (HF5.out.set4 (q := w1.heap.size) (x0 := .string v4.o) (x1 := .string v4.nm) (x2 := .slice v4.A v4.ll v4.cap) (x3 := .int .i64 v4.p) (.inl (by omega)))
        refine calls_gen (P := fun W5 => Bx W5 w1.heap.size 27 v4.c ∧ Bx W5 w.heap.size 27 zc4 ∧ PRd W5 xb rb b D (F r.2.tl).2 ∧ FOS W5 (Sx W w1) (binO r.2.hd.text r.1 (F r.2.tl).1) v4 ∧ Fx (X2 xb rb) w W5) ⟨HE6.out, HB6.out, HM6.out, HO7.out, HF6.out⟩ ?_
        rintro W5 ⟨hE, hB, hM, hO, hF⟩
        have HREL : Hid (∀ (w2 : World) (opv okv : Value), (sp k (F r.2.tl).2.hd = true ∧ opv = .string ⟨(F r.2.tl).2.hd.text.toArray⟩ ∧ okv = .bool true ∧ PRd w2 xb rb b D (F r.2.tl).2.tl ∨ sp k (F r.2.tl).2.hd = false ∧ opv = .string ⟨#[]⟩ ∧ okv = .bool false ∧ PRd w2 xb rb b D (F r.2.tl).2) → Fx (X2 xb rb) W5 w2 → LfRel xb rb b D k F tot w W w1 (F r.2.tl).2.len opv okv w2) := Lib.hid (fun w2 opv okv h1 h2 =>
          ⟨(binO r.2.hd.text r.1 (F r.2.tl).1, (F r.2.tl).2), v4, HTT.out.trans HG.out.1, hO.fx h2 (fun j hj => H.out.n2 (by unfold Sx at hj; omega)), hE.fx h2 (H.out.n2 (by omega)), hB.fx h2 (H.out.n2 (Nat.le_refl _)), hF.trans h2, rfl, h1⟩)
        obtain ⟨opv, okv, hcall⟩ : ∃ (o : ByteArray) (q : Bool), Calls Tryz.prog 106 #[.pointer (some ⟨xb, 0, none⟩), .int .i64 (k : Int)] W5 (fun e w' => e = .returned (.tuple #[.string o, .bool q]) ∧ LfRel xb rb b D k F tot w W w1 (F r.2.tl).2.len (.string o) (.bool q) w') := by
          cases hsp : sp k (F r.2.tl).2.hd with
          | true => exact ⟨_, true, (psign_yes W5 hM hsp).mono fun e w' ⟨h1, h2, h3⟩ => ⟨h1, HREL.out w' _ _ (.inl ⟨hsp, rfl, rfl, h2⟩) h3⟩⟩
          | false => exact ⟨_, false, (psign_no W5 hM hsp).mono fun e w' ⟨h1, h2⟩ => ⟨h1, HREL.out w' _ _ (.inr ⟨hsp, rfl, rfl, hM.below h2⟩) (Fx.of h2)⟩⟩
        refine hcall.mono ?_
        rintro e w6 ⟨rfl, hr6⟩
        have HR6 := Lib.hid hr6
        clear hE hB hM hO hF hcall hr6 HREL
        go_wp2
        go_roundg (F r.2.tl).2.len
        case measure => exact HG.out.2
        case rel => exact HR6.out
    · have HT2 := Lib.hid (show tot = r by rw [htot, left_stop hsp])
      obtain ⟨e0, e1, e2, e3⟩ := Bx.cells4 hE
      obtain ⟨y0, y1, y2, y3⟩ := Bx.frozen4 hB
      obtain ⟨b0, b1, b2, b3⟩ := Bx.cells4 hB
      have hl3 := hB.lt
      have HM3 := Lib.hid hM
      clear htot hO hE hB hF hM hsp
      go_wp2
      obtain ⟨d0, d1, d2, d3⟩ := (Bx.set4 (x0 := .string v.o) (x1 := .string v.nm) (x2 := .slice v.A v.ll v.cap) (x3 := .int .i64 v.p) HB3.out).cells4
      rw [HT2.out]
      refine bodyPost_ret (v := .agg #[.string v.o, .string v.nm, .slice v.A v.ll v.cap, .int .i64 v.p]) (by simp [results, Tryz.results109, go_sem, d0, d1, d2, d3]) rfl ⟨v, rfl, ?_, ?_, ?_⟩
      · exact (HO3.out.setS4 (by unfold Sx; omega)).wide (fun j hj hS => by unfold Sx at hS; unfold Rg; omega)
      · exact HM3.out.set4 HB3.out (H.out.lo2)
      · exact HF3.out.set4 (.inl (Nat.le_refl _))
set_option maxHeartbeats 4000000 in
set_option maxRecDepth 100000 in
theorem pleft_puntil {k : Nat} {F : St → RF} (hR : Rok F) (hF : RFC 138 F D) (w : World) (h : PRd w xb rb b D st) :
    Calls Tryz.prog 109 #[.pointer (some ⟨xb, 0, none⟩), .int .i64 (k : Int), .func (.func 138) #[.pointer (some ⟨xb, 0, none⟩)] #[]] w (FmP xb rb b D (leftS k F st) w) := by
  have H := Lib.hid h
  have HF := Lib.hid hF
  have HRK := Lib.hid hR
  obtain ⟨tot, htot⟩ : ∃ tot, tot = leftS k F st := ⟨_, rfl⟩
  rw [← htot]
  have HT := Lib.hid htot
  clear h hF hR htot
  go_enter Tryz.func109, Tryz.ntmps109
  go_wp2_with fail
  refine calls_gen (P := fun W => PRd W xb rb b D st ∧ Bx W w.heap.size 27 zc4 ∧ Fx (X2 xb rb) w W) ⟨H.out.alloc _, Bx.new w 27 zc4, (Fx.refl _ _).alloc _⟩ ?_
  rintro W ⟨hM, hB, hF⟩
  refine (HF.out xb rb b st W hM).mono ?_
  rintro e w1 ⟨v1, rfl, hO, hM1, hF1⟩
  have hs := hB.lt
  have hB1 := hB.fx hF1 (H.out.n2 (Nat.le_refl _))
  have hW1 := hF1.size
  have hs1 := hB1.lt
  have HB1 := Lib.hid hB1
  have HM1 := Lib.hid hM1
  have HO := Lib.hid hO
  have HF1 := Lib.hid (hF.trans hF1)
  have hnq : w.heap.size ≠ w1.heap.size := by omega
  clear hM hB hF hM1 hO hF1 hB1
  go_wp2_with fail
  refine calls_gen (P := fun W1 => PRd W1 xb rb b D (F st).2 ∧ Bx W1 w1.heap.size 27 v1.c ∧ Bx W1 w.heap.size 27 zc4 ∧ FO W1 (W.heap.size + 1) w1.heap.size (F st).1 v1 ∧ Fx (X2 xb rb) w W1 ∧ w1.heap.size < W1.heap.size) ⟨HM1.out.alloc _, Bx.new w1 27 v1.c, HB1.out.alloc _, HO.out.alloc _, HF1.out.alloc _, by simp⟩ ?_
  rintro W1 ⟨hM2, hE2, hB2, hO2, hF2, hz⟩
  have HREL : Hid (∀ (e : Ending) (w2 : World) (opv okv : Value), (sp k (F st).2.hd = true ∧ opv = .string ⟨(F st).2.hd.text.toArray⟩ ∧ okv = .bool true ∧ PRd w2 xb rb b D (F st).2.tl ∨ sp k (F st).2.hd = false ∧ opv = .string ⟨#[]⟩ ∧ okv = .bool false ∧ PRd w2 xb rb b D (F st).2) → Fx (X2 xb rb) W1 w2 → LfRel xb rb b D k F tot w W w1 (F st).2.len opv okv w2) := Lib.hid (fun _ w2 opv okv h1 h2 =>
    ⟨F st, v1, HT.out, (hO2.fx h2 (fun j hj => H.out.n2 (by unfold Rg at hj; omega))).wide (fun j _ hj => by unfold Rg at hj; unfold Sx; omega), hE2.fx h2 (H.out.n2 (by omega)), hB2.fx h2 (H.out.n2 (Nat.le_refl _)), hF2.trans h2, rfl, h1⟩)
  obtain ⟨opv, okv, hok, hcall⟩ : ∃ (o : ByteArray) (q : Bool), (q = sp k (F st).2.hd) ∧ Calls Tryz.prog 106 #[.pointer (some ⟨xb, 0, none⟩), .int .i64 (k : Int)] W1 (fun e w' => e = .returned (.tuple #[.string o, .bool q]) ∧ LfRel xb rb b D k F tot w W w1 (F st).2.len (.string o) (.bool q) w') := by
    cases hsp : sp k (F st).2.hd with
    | true => exact ⟨_, true, rfl, (psign_yes W1 hM2 hsp).mono fun e w' ⟨h1, h2, h3⟩ => ⟨h1, HREL.out e w' _ _ (.inl ⟨hsp, rfl, rfl, h2⟩) h3⟩⟩
    | false => exact ⟨_, false, rfl, (psign_no W1 hM2 hsp).mono fun e w' ⟨h1, h2⟩ => ⟨h1, HREL.out e w' _ _ (.inr ⟨hsp, rfl, rfl, hM2.below h2⟩) (Fx.of h2)⟩⟩
  refine hcall.mono ?_
  rintro e w2 ⟨rfl, hr0⟩
  have HR0 := Lib.hid hr0
  clear hM2 hE2 hB2 hO2 hF2 hcall hr0 HREL hok
  go_wp2
  go_loopg [8, 9] (F st).2.len (fun gk a c wr => LfRel xb rb b D k F tot w W w1 gk a c wr)
  case atStart => exact HR0.out
  case round =>
    clear HR0
    obtain ⟨r, v, htot, hO, hE, hB, hF, rfl, hc⟩ := hrel
    have hl4 := hE.lt
    have HTT := Lib.hid htot
    have HE3 := Lib.hid hE
    have HB3 := Lib.hid hB
    have HO3 := Lib.hid hO
    have HF3 := Lib.hid hF
    rcases hc with ⟨hsp, rfl, rfl, hM⟩ | ⟨hsp, rfl, rfl, hM⟩
    · have HG := Lib.hid (left_go (r := r) HRK.out hsp)
      have HM3 := Lib.hid hM
      obtain ⟨e0, e1, e2, e3⟩ := Bx.cells4 hE
      clear htot hO hE hB hF hM hsp
      go_wp2_with fail
      go_region_law (first
        | (go_simp
           go_at_call 138
           refine (HF.out xb rb b _ _ HM3.out.drew).mono ?_
           rintro e w3 ⟨v3, rfl, hO4, hM4, hF4⟩
           obtain ⟨hE4, hB4, hO5, hO6, hF5, hz3⟩ := arm1 H.out hs hW1 hl4 HE3.out HB3.out HO3.out HF3.out hO4 hF4
           have HE4 := Lib.hid hE4
           have HB4 := Lib.hid hB4
           have HO4 := Lib.hid hO5
           have HO5 := Lib.hid hO6
           have HM4 := Lib.hid hM4
           have HF4 := Lib.hid hF5
           obtain ⟨e0, e1, e2, e3⟩ := Bx.cells4 hE4
           have hl5 := hE4.lt
           clear hO4 hM4 hF4 hE4 hB4 hO5 hO6 hF5)
        | (go_simp
           go_at_call 107
           refine (pjoined_any (S := Sx W w1) _ w3 HO4.out HO5.out (fun j hj => sx_top hW1 hl5 hj)).mono ?_
           rintro e w4 ⟨v4, rfl, hO6, hb4⟩
           have hz4 := hb4.size
           have hE5 := HE4.out.below hb4
           have HE5 := Lib.hid hE5
           have HB5 := Lib.hid (HB4.out.below hb4)
           have HO6 := Lib.hid hO6
           have HM5 := Lib.hid (HM4.out.below hb4)
           have HF5 := Lib.hid (HF4.out.on hb4)
           obtain ⟨e0, e1, e2, e3⟩ := Bx.cells4 hE5
           obtain ⟨x0, x1, x2, x3⟩ := Bx.frozen4 hE5
           have hl6 := hE5.lt
           clear hO6 hb4 hE5))
      all_goals
        go_wp2_with fail
        have HE6 := Lib.hid (Bx.set4 (x0 := .string v4.o) (x1 := .string v4.nm) (x2 := .slice v4.A v4.ll v4.cap) (x3 := .int .i64 v4.p) HE5.out)
        have HB6 := Lib.hid (Bx.far4 (x0 := .string v4.o) (x1 := .string v4.nm) (x2 := .slice v4.A v4.ll v4.cap) (x3 := .int .i64 v4.p) HB5.out hnq)
        have HM6 := Lib.hid (HM5.out.set4 (x0 := .string v4.o) (x1 := .string v4.nm) (x2 := .slice v4.A v4.ll v4.cap) (x3 := .int .i64 v4.p) HE5.out (by have := H.out.lo2; omega))
        have HO7 := Lib.hid (HO6.out.setS4 (q := w1.heap.size) (x0 := .string v4.o) (x1 := .string v4.nm) (x2 := .slice v4.A v4.ll v4.cap) (x3 := .int .i64 v4.p) (by unfold Sx; omega))
        have HF6 := Lib.hid (HF5.out.set4 (q := w1.heap.size) (x0 := .string v4.o) (x1 := .string v4.nm) (x2 := .slice v4.A v4.ll v4.cap) (x3 := .int .i64 v4.p) (.inl (by omega)))
        refine calls_gen (P := fun W5 => Bx W5 w1.heap.size 27 v4.c ∧ Bx W5 w.heap.size 27 zc4 ∧ PRd W5 xb rb b D (F r.2.tl).2 ∧ FOS W5 (Sx W w1) (binO r.2.hd.text r.1 (F r.2.tl).1) v4 ∧ Fx (X2 xb rb) w W5) ⟨HE6.out, HB6.out, HM6.out, HO7.out, HF6.out⟩ ?_
        rintro W5 ⟨hE, hB, hM, hO, hF⟩
        have HREL : Hid (∀ (w2 : World) (opv okv : Value), (sp k (F r.2.tl).2.hd = true ∧ opv = .string ⟨(F r.2.tl).2.hd.text.toArray⟩ ∧ okv = .bool true ∧ PRd w2 xb rb b D (F r.2.tl).2.tl ∨ sp k (F r.2.tl).2.hd = false ∧ opv = .string ⟨#[]⟩ ∧ okv = .bool false ∧ PRd w2 xb rb b D (F r.2.tl).2) → Fx (X2 xb rb) W5 w2 → LfRel xb rb b D k F tot w W w1 (F r.2.tl).2.len opv okv w2) := Lib.hid (fun w2 opv okv h1 h2 =>
          ⟨(binO r.2.hd.text r.1 (F r.2.tl).1, (F r.2.tl).2), v4, HTT.out.trans HG.out.1, hO.fx h2 (fun j hj => H.out.n2 (by unfold Sx at hj; omega)), hE.fx h2 (H.out.n2 (by omega)), hB.fx h2 (H.out.n2 (Nat.le_refl _)), hF.trans h2, rfl, h1⟩)
        obtain ⟨opv, okv, hcall⟩ : ∃ (o : ByteArray) (q : Bool), Calls Tryz.prog 106 #[.pointer (some ⟨xb, 0, none⟩), .int .i64 (k : Int)] W5 (fun e w' => e = .returned (.tuple #[.string o, .bool q]) ∧ LfRel xb rb b D k F tot w W w1 (F r.2.tl).2.len (.string o) (.bool q) w') := by
          cases hsp : sp k (F r.2.tl).2.hd with
          | true => exact ⟨_, true, (psign_yes W5 hM hsp).mono fun e w' ⟨h1, h2, h3⟩ => ⟨h1, HREL.out w' _ _ (.inl ⟨hsp, rfl, rfl, h2⟩) h3⟩⟩
          | false => exact ⟨_, false, (psign_no W5 hM hsp).mono fun e w' ⟨h1, h2⟩ => ⟨h1, HREL.out w' _ _ (.inr ⟨hsp, rfl, rfl, hM.below h2⟩) (Fx.of h2)⟩⟩
        refine hcall.mono ?_
        rintro e w6 ⟨rfl, hr6⟩
        have HR6 := Lib.hid hr6
        clear hE hB hM hO hF hcall hr6 HREL
        go_wp2
        go_roundg (F r.2.tl).2.len
        case measure => exact HG.out.2
        case rel => exact HR6.out
    · have HT2 := Lib.hid (show tot = r by rw [htot, left_stop hsp])
      obtain ⟨e0, e1, e2, e3⟩ := Bx.cells4 hE
      obtain ⟨y0, y1, y2, y3⟩ := Bx.frozen4 hB
      obtain ⟨b0, b1, b2, b3⟩ := Bx.cells4 hB
      have hl3 := hB.lt
      have HM3 := Lib.hid hM
      clear htot hO hE hB hF hM hsp
      go_wp2
      obtain ⟨d0, d1, d2, d3⟩ := (Bx.set4 (x0 := .string v.o) (x1 := .string v.nm) (x2 := .slice v.A v.ll v.cap) (x3 := .int .i64 v.p) HB3.out).cells4
      rw [HT2.out]
      refine bodyPost_ret (v := .agg #[.string v.o, .string v.nm, .slice v.A v.ll v.cap, .int .i64 v.p]) (by simp [results, Tryz.results109, go_sem, d0, d1, d2, d3]) rfl ⟨v, rfl, ?_, ?_, ?_⟩
      · exact (HO3.out.setS4 (by unfold Sx; omega)).wide (fun j hj hS => by unfold Sx at hS; unfold Rg; omega)
      · exact HM3.out.set4 HB3.out (H.out.lo2)
      · exact HF3.out.set4 (.inl (Nat.le_refl _))
end
end
section
open Go.RowKit

section
variable {xb rb b D : Nat} {st : St}
set_option maxHeartbeats 2000000 in
theorem pencl_any {d : Dq} (hD : DFC 42 d.f D) (q : Nat) (w : World) (h : PRd w xb rb b D st) : Calls Tryz.prog 182 #[.pointer (some ⟨xb, 0, none⟩), .int .i64 (q : Int)] w (FmP xb rb b D (enclS d q st) w) := by
  have H := Lib.hid h
  have HF := Lib.hid hD
  clear h hD
  go_enter Tryz.func182, Tryz.ntmps182
  go_wp2_with fail
  refine calls_gen (P := fun W => PRd W xb rb b D st ∧ Bx W w.heap.size 27 zc4 ∧ Fx (X2 xb rb) w W) ⟨H.out.alloc _, Bx.new w 27 zc4, (Fx.refl _ _).alloc _⟩ ?_
  rintro W ⟨hM, hB, hF⟩
  refine (HF.out xb rb b st W hM).mono ?_
  rintro e w1 ⟨v1, rfl, hO, hM1, hF1⟩
  have hs := hB.lt
  have hB1 := hB.fx hF1 (H.out.n2 (Nat.le_refl _))
  have hW1 := hF1.size
  have hs1 := hB1.lt
  have HB1 := Lib.hid hB1
  have HM1 := Lib.hid hM1
  have HO := Lib.hid hO
  have HF1 := Lib.hid (hF.trans hF1)
  have hnq : w.heap.size ≠ w1.heap.size := by omega
  clear hM hB hF hM1 hO hF1 hB1
  go_wp2_with fail
  refine calls_gen (P := fun W1 => PRd W1 xb rb b D (d.f st).2 ∧ Bx W1 w1.heap.size 27 v1.c ∧ Bx W1 w.heap.size 27 zc4 ∧ FO W1 (W.heap.size + 1) w1.heap.size (d.f st).1 v1 ∧ Fx (X2 xb rb) w W1 ∧ w1.heap.size < W1.heap.size) ⟨HM1.out.alloc _, Bx.new w1 27 v1.c, HB1.out.alloc _, HO.out.alloc _, HF1.out.alloc _, by simp⟩ ?_
  rintro W1 ⟨hM2, hE2, hB2, hO2, hF2, hz⟩
  refine (pwant_any ⟨#[41]⟩ W1 hM2).mono ?_
  rintro e w2 ⟨rfl, hM3, hF3⟩
  have hz2 := hF3.size
  have hB3 := hB2.fx hF3 (H.out.n2 (Nat.le_refl _))
  have hE3 := hE2.fx hF3 (H.out.n2 (by omega))
  have HB3 := Lib.hid hB3
  have HE3 := Lib.hid hE3
  have HO3 := Lib.hid (show FOS w2 (Sx W w1) (d.f st).1 v1 from (hO2.fx hF3 (fun j hj => H.out.n2 (by unfold Rg at hj; omega))).wide (fun j _ hj => by unfold Rg at hj; unfold Sx; omega))
  have HM3 := Lib.hid hM3
  have HF3 := Lib.hid (hF2.trans hF3)
  obtain ⟨e0, e1, e2, e3⟩ := Bx.cells4 hE3
  obtain ⟨x0, x1, x2, x3⟩ := Bx.frozen4 hE3
  obtain ⟨b0, b1, b2, b3⟩ := Bx.cells4 hB3
  obtain ⟨y0, y1, y2, y3⟩ := Bx.frozen4 hB3
  have hl3 := hB3.lt
  have hl4 := hE3.lt
  clear hM2 hE2 hB2 hO2 hF2 hM3 hF3 hB3 hE3
  go_wp2
  have hBx := HB3.out.far (p := ⟨w1.heap.size, 3, none⟩) hnq (.int .i64 (q : Int))
  obtain ⟨d0, d1, d2, d3⟩ := (Bx.set4 (x0 := .string v1.o) (x1 := .string v1.nm) (x2 := .slice v1.A v1.ll v1.cap) (x3 := .int .i64 (q : Int)) hBx).cells4
  refine bodyPost_ret (v := .agg #[.string v1.o, .string v1.nm, .slice v1.A v1.ll v1.cap, .int .i64 (q : Int)]) (by simp [results, Tryz.results182, go_sem, d0, d1, d2, d3]) rfl ⟨{ v1 with p := (q : Int) }, rfl, ?_, ?_, ?_⟩
  · exact FOS.mv q ((((HO3.out.setS (q := w1.heap.size) (by unfold Sx; omega) _).setS4 (by unfold Sx; omega)).wide (fun j hj hS => by unfold Sx at hS; unfold Rg; omega)))
  · exact (HM3.out.set HE3.out (by unfold RpT; decide) (by have := H.out.lo2; omega) _).set4 hBx (H.out.lo2)
  · exact (HF3.out.setCell (p := ⟨w1.heap.size, 3, none⟩) (.inl (by show w.heap.size ≤ w1.heap.size; omega)) _).set4 (.inl (Nat.le_refl _))
/-- What atom knows behind its first look. -/
structure Am (w W : World) (xb rb b D tb : Nat) (st : St) : Prop where
  m : PRd W xb rb b D st
  t : Bx W tb 152 [.int .i64 (st.hd.kind : Int), .string ⟨st.hd.text.toArray⟩, .int .i64 (st.hd.pos : Int)]
  r : Bx W w.heap.size 27 zc4
  f : Fx (X2 xb rb) w W
  lt : w.heap.size < tb
theorem Bx.cells3 {w : World} {q : Nat} {c0 c1 c2 : Value} {t : TypeId} (h : Bx w q t [c0, c1, c2]) : w.cell? ⟨q, 0, none⟩ = some c0 ∧ w.cell? ⟨q, 1, none⟩ = some c1 ∧ w.cell? ⟨q, 2, none⟩ = some c2 := ⟨h.cell 0, h.cell 1, h.cell 2⟩
theorem fo_leaf (w : World) (S : Nat → Prop) (op nm : List UInt8) (p : Nat) : FOS w S (some (.leaf op nm p)) ⟨⟨op.toArray⟩, ⟨nm.toArray⟩, none, 0, 0, (p : Int)⟩ := rfl
theorem fo_word (w : World) (S : Nat → Prop) {t x : List UInt8} (p : Nat) (h : (⟨t.toArray⟩ : ByteArray) = ⟨x.toArray⟩) : FOS w S (some (.leaf x [] p)) ⟨⟨t.toArray⟩, ⟨#[]⟩, none, 0, 0, (p : Int)⟩ := by rw [h]; rfl
theorem isT_to {t : Tok} {x : List UInt8} (h : isT t x = true) : (⟨t.text.toArray⟩ : ByteArray) = ⟨x.toArray⟩ := by rw [isT_text h]
/-- The look for a word that isn't there. -/
def SkN (w : World) (xb rb b D tb : Nat) (st : St) (x : ByteArray) : Prop := ∀ W, Am w W xb rb b D tb st → Calls Tryz.prog 137 #[.pointer (st.ptr rb), .string x] W fun e w' => e = .returned (.bool false) ∧ Am w w' xb rb b D tb st ∧ w'.cell? ⟨xb, 0, none⟩ = some (.pointer (st.ptr rb)) ∧ xb < w'.heap.size ∧ w'.cell? ⟨tb, 0, none⟩ = some (.int .i64 (st.hd.kind : Int)) ∧ w'.cell? ⟨tb, 1, none⟩ = some (.string ⟨st.hd.text.toArray⟩) ∧ w'.cell? ⟨tb, 2, none⟩ = some (.int .i64 (st.hd.pos : Int)) ∧ tb < w'.heap.size
theorem Am.below {w W W' : World} {tb : Nat} (h : Am w W xb rb b D tb st) (hb : Below W.heap.size W W') : Am w W' xb rb b D tb st := ⟨h.m.below hb, h.t.below hb, h.r.below hb, h.f.on hb, h.lt⟩
theorem skn {w : World} {tb : Nat} (x : ByteArray) (hi : isT st.hd x.data.toList = false) : SkN w xb rb b D tb st x := fun _ A =>
  (A.m.skip_no x hi).mono fun _ _ ⟨h1, h2⟩ => ⟨h1, A.below h2, (A.m.below h2).c0, (A.m.below h2).ltx, (A.t.below h2).cell 0, (A.t.below h2).cell 1, (A.t.below h2).cell 2, (A.t.below h2).lt⟩
set_option maxHeartbeats 2000000 in
theorem patom_k3 (d : Dq) (hk : st.hd.kind = 3) (w : World) (h : PRd w xb rb b D st) : Calls Tryz.prog 178 #[.pointer (some ⟨xb, 0, none⟩)] w (FmP xb rb b D (atomS d st) w) := by
  have hx := h.ltx
  have c0 := h.c0
  have H := Lib.hid h
  have HP := Lib.hid (fun (W : World) (hW : PRd W xb rb b D st) => hW.peek)
  have hf0 := field0
  have hf1 := field1
  have hf2 := field2
  have g1 : ((st.hd.kind : Int) == 3) = true := by rw [hk]; rfl
  have hk0 : st.hd.kind ≠ 0 := by omega
  have HTK := Lib.hid (fun (W : World) (hW : PRd W xb rb b D st) => hW.take_on hk0)
  have HR := Lib.hid (show atomS d st = (some (.leaf opLab st.hd.text st.hd.pos), st.tl) by unfold atomS; rw [if_pos hk])
  clear h hk hk0
  go_enter Tryz.func178, Tryz.ntmps178
  have hne := World.new_ne w ⟨xb, 0, none⟩ c0
  go_wp2_with fail
  refine calls_gen (P := fun W => PRd W xb rb b D st ∧ Bx W w.heap.size 27 zc4 ∧ Fx (X2 xb rb) w W) ⟨H.out.alloc _, Bx.new w 27 zc4, (Fx.refl _ _).alloc _⟩ ?_
  rintro W ⟨hM, hB, hF⟩
  refine (HP.out W hM).mono ?_
  rintro e w1 ⟨rfl, hb1⟩
  have hs1 := hB.lt
  have hz1 := hb1.size
  have A := Lib.hid (show Am w (w1.alloc (.cells #[.int .i64 (st.hd.kind : Int), .string ⟨st.hd.text.toArray⟩, .int .i64 (st.hd.pos : Int)] 152)) xb rb b D w1.heap.size st from ⟨(hM.below hb1).alloc _, Bx.new w1 152 [_, _, _], (hB.below hb1).alloc _, (hF.on hb1).alloc _, by omega⟩)
  have c0 := (hM.below hb1).c0
  have hx1 := (hM.below hb1).ltx
  clear hM hB hF hb1
  go_wp2_with fail
  refine (HTK.out _ A.out.m).mono ?_
  rintro e w3 ⟨rfl, hM3, hF3⟩
  · skip
    have hB3 := A.out.r.fx hF3 (H.out.n2 (Nat.le_refl _))
    have hT3 := A.out.t.fx hF3 (H.out.n2 (by have := A.out.lt; omega))
    have HB3 := Lib.hid hB3
    have HM3 := Lib.hid hM3
    have HF3 := Lib.hid (A.out.f.trans hF3)
    obtain ⟨t0, t1, t2⟩ := Bx.cells3 hT3
    obtain ⟨b0, b1, b2, b3⟩ := Bx.cells4 hB3
    obtain ⟨y0, y1, y2, y3⟩ := Bx.frozen4 hB3
    have hl3 := hB3.lt
    have hl4 := hT3.lt
    clear hM3 hF3 hB3 hT3
    go_wp2
    obtain ⟨d0, d1, d2, d3⟩ := (Bx.set4 (x0 := (.string ⟨#[108, 97, 98, 101, 108]⟩)) (x1 := (.string ⟨st.hd.text.toArray⟩)) (x2 := .slice none 0 0) (x3 := .int .i64 (st.hd.pos : Int)) HB3.out).cells4
    rw [HR.out]
    refine bodyPost_ret (v := .agg #[(.string ⟨#[108, 97, 98, 101, 108]⟩), (.string ⟨st.hd.text.toArray⟩), .slice none 0 0, .int .i64 (st.hd.pos : Int)]) (by simp [results, Tryz.results178, go_sem, d0, d1, d2, d3]) rfl ⟨⟨⟨#[108, 97, 98, 101, 108]⟩, ⟨st.hd.text.toArray⟩, none, 0, 0, (st.hd.pos : Int)⟩, rfl, ?_, ?_, ?_⟩
    · exact fo_leaf _ _ opLab st.hd.text st.hd.pos
    · exact HM3.out.set4 HB3.out (H.out.lo2)
    · exact HF3.out.set4 (.inl (Nat.le_refl _))
set_option maxHeartbeats 2000000 in
theorem patom_tt (d : Dq) (hk : st.hd.kind ≠ 3) (hi : isT st.hd opTrue = true) (w : World) (h : PRd w xb rb b D st) : Calls Tryz.prog 178 #[.pointer (some ⟨xb, 0, none⟩)] w (FmP xb rb b D (atomS d st) w) := by
  have hx := h.ltx
  have c0 := h.c0
  have H := Lib.hid h
  have HP := Lib.hid (fun (W : World) (hW : PRd W xb rb b D st) => hW.peek)
  have hf0 := field0
  have hf1 := field1
  have hf2 := field2
  have g1 : ((st.hd.kind : Int) == 3) = false := by rw [beq_eq_false_iff_ne]; omega
  have HTK := Lib.hid (fun (W : World) (hW : PRd W xb rb b D st) => hW.skip_yes ⟨#[116, 114, 117, 101]⟩ hi)
  have HR := Lib.hid (show atomS d st = (some (.leaf opTrue [] st.hd.pos), st.tl) by unfold atomS; rw [if_neg hk, if_pos hi])
  have HX := Lib.hid (isT_to hi)
  clear h hk hi
  go_enter Tryz.func178, Tryz.ntmps178
  have hne := World.new_ne w ⟨xb, 0, none⟩ c0
  go_wp2_with fail
  refine calls_gen (P := fun W => PRd W xb rb b D st ∧ Bx W w.heap.size 27 zc4 ∧ Fx (X2 xb rb) w W) ⟨H.out.alloc _, Bx.new w 27 zc4, (Fx.refl _ _).alloc _⟩ ?_
  rintro W ⟨hM, hB, hF⟩
  refine (HP.out W hM).mono ?_
  rintro e w1 ⟨rfl, hb1⟩
  have hs1 := hB.lt
  have hz1 := hb1.size
  have A := Lib.hid (show Am w (w1.alloc (.cells #[.int .i64 (st.hd.kind : Int), .string ⟨st.hd.text.toArray⟩, .int .i64 (st.hd.pos : Int)] 152)) xb rb b D w1.heap.size st from ⟨(hM.below hb1).alloc _, Bx.new w1 152 [_, _, _], (hB.below hb1).alloc _, (hF.on hb1).alloc _, by omega⟩)
  have c0 := (hM.below hb1).c0
  have hx1 := (hM.below hb1).ltx
  clear hM hB hF hb1
  go_wp2_with fail
  refine (HTK.out _ A.out.m).mono ?_
  rintro e w3 ⟨rfl, hM3, hF3⟩
  · skip
    have hB3 := A.out.r.fx hF3 (H.out.n2 (Nat.le_refl _))
    have hT3 := A.out.t.fx hF3 (H.out.n2 (by have := A.out.lt; omega))
    have HB3 := Lib.hid hB3
    have HM3 := Lib.hid hM3
    have HF3 := Lib.hid (A.out.f.trans hF3)
    obtain ⟨t0, t1, t2⟩ := Bx.cells3 hT3
    obtain ⟨b0, b1, b2, b3⟩ := Bx.cells4 hB3
    obtain ⟨y0, y1, y2, y3⟩ := Bx.frozen4 hB3
    have hl3 := hB3.lt
    have hl4 := hT3.lt
    clear hM3 hF3 hB3 hT3
    go_wp2
    obtain ⟨d0, d1, d2, d3⟩ := (Bx.set4 (x0 := (.string ⟨st.hd.text.toArray⟩)) (x1 := (.string ⟨#[]⟩)) (x2 := .slice none 0 0) (x3 := .int .i64 (st.hd.pos : Int)) HB3.out).cells4
    rw [HR.out]
    refine bodyPost_ret (v := .agg #[(.string ⟨st.hd.text.toArray⟩), (.string ⟨#[]⟩), .slice none 0 0, .int .i64 (st.hd.pos : Int)]) (by simp [results, Tryz.results178, go_sem, d0, d1, d2, d3]) rfl ⟨⟨⟨st.hd.text.toArray⟩, ⟨#[]⟩, none, 0, 0, (st.hd.pos : Int)⟩, rfl, ?_, ?_, ?_⟩
    · exact fo_word _ _ st.hd.pos HX.out
    · exact HM3.out.set4 HB3.out (H.out.lo2)
    · exact HF3.out.set4 (.inl (Nat.le_refl _))
set_option maxHeartbeats 2000000 in
theorem patom_ff (d : Dq) (hk : st.hd.kind ≠ 3) (ht : isT st.hd opTrue = false) (hi : isT st.hd opFalse = true) (w : World) (h : PRd w xb rb b D st) : Calls Tryz.prog 178 #[.pointer (some ⟨xb, 0, none⟩)] w (FmP xb rb b D (atomS d st) w) := by
  have hx := h.ltx
  have c0 := h.c0
  have H := Lib.hid h
  have HP := Lib.hid (fun (W : World) (hW : PRd W xb rb b D st) => hW.peek)
  have hf0 := field0
  have hf1 := field1
  have hf2 := field2
  have g1 : ((st.hd.kind : Int) == 3) = false := by rw [beq_eq_false_iff_ne]; omega
  have HN0 := Lib.hid (fun tb : Nat => skn (w := w) (xb := xb) (rb := rb) (b := b) (D := D) (tb := tb) (st := st) ⟨#[116, 114, 117, 101]⟩ ht)
  have HTK := Lib.hid (fun (W : World) (hW : PRd W xb rb b D st) => hW.skip_yes ⟨#[102, 97, 108, 115, 101]⟩ hi)
  have HR := Lib.hid (show atomS d st = (some (.leaf opFalse [] st.hd.pos), st.tl) by unfold atomS; rw [if_neg hk, if_neg (by rw [ht]; simp), if_pos hi])
  have HX := Lib.hid (isT_to hi)
  clear h hk hi ht
  go_enter Tryz.func178, Tryz.ntmps178
  have hne := World.new_ne w ⟨xb, 0, none⟩ c0
  go_wp2_with fail
  refine calls_gen (P := fun W => PRd W xb rb b D st ∧ Bx W w.heap.size 27 zc4 ∧ Fx (X2 xb rb) w W) ⟨H.out.alloc _, Bx.new w 27 zc4, (Fx.refl _ _).alloc _⟩ ?_
  rintro W ⟨hM, hB, hF⟩
  refine (HP.out W hM).mono ?_
  rintro e w1 ⟨rfl, hb1⟩
  have hs1 := hB.lt
  have hz1 := hb1.size
  have A := Lib.hid (show Am w (w1.alloc (.cells #[.int .i64 (st.hd.kind : Int), .string ⟨st.hd.text.toArray⟩, .int .i64 (st.hd.pos : Int)] 152)) xb rb b D w1.heap.size st from ⟨(hM.below hb1).alloc _, Bx.new w1 152 [_, _, _], (hB.below hb1).alloc _, (hF.on hb1).alloc _, by omega⟩)
  have c0 := (hM.below hb1).c0
  have hx1 := (hM.below hb1).ltx
  clear hM hB hF hb1
  go_wp2_with fail
  refine (HN0.out _ _ A.out).mono ?_
  rintro e wn0 ⟨rfl, A', c0, hx1, t0, t1, t2, hlt⟩
  replace A := Lib.hid A'
  clear A'
  go_wp2_with fail
  refine (HTK.out _ A.out.m).mono ?_
  rintro e w3 ⟨rfl, hM3, hF3⟩
  · skip
    have hB3 := A.out.r.fx hF3 (H.out.n2 (Nat.le_refl _))
    have hT3 := A.out.t.fx hF3 (H.out.n2 (by have := A.out.lt; omega))
    have HB3 := Lib.hid hB3
    have HM3 := Lib.hid hM3
    have HF3 := Lib.hid (A.out.f.trans hF3)
    obtain ⟨t0, t1, t2⟩ := Bx.cells3 hT3
    obtain ⟨b0, b1, b2, b3⟩ := Bx.cells4 hB3
    obtain ⟨y0, y1, y2, y3⟩ := Bx.frozen4 hB3
    have hl3 := hB3.lt
    have hl4 := hT3.lt
    clear hM3 hF3 hB3 hT3
    go_wp2
    obtain ⟨d0, d1, d2, d3⟩ := (Bx.set4 (x0 := (.string ⟨st.hd.text.toArray⟩)) (x1 := (.string ⟨#[]⟩)) (x2 := .slice none 0 0) (x3 := .int .i64 (st.hd.pos : Int)) HB3.out).cells4
    rw [HR.out]
    refine bodyPost_ret (v := .agg #[(.string ⟨st.hd.text.toArray⟩), (.string ⟨#[]⟩), .slice none 0 0, .int .i64 (st.hd.pos : Int)]) (by simp [results, Tryz.results178, go_sem, d0, d1, d2, d3]) rfl ⟨⟨⟨st.hd.text.toArray⟩, ⟨#[]⟩, none, 0, 0, (st.hd.pos : Int)⟩, rfl, ?_, ?_, ?_⟩
    · exact fo_word _ _ st.hd.pos HX.out
    · exact HM3.out.set4 HB3.out (H.out.lo2)
    · exact HF3.out.set4 (.inl (Nat.le_refl _))
set_option maxHeartbeats 2000000 in
theorem patom_lp (d : Dq) (hD : DFC 42 d.f D) (hk : st.hd.kind ≠ 3) (ht : isT st.hd opTrue = false) (hf : isT st.hd opFalse = false) (hi : isT st.hd [40] = true) (w : World) (h : PRd w xb rb b D st) : Calls Tryz.prog 178 #[.pointer (some ⟨xb, 0, none⟩)] w (FmP xb rb b D (atomS d st) w) := by
  have hx := h.ltx
  have c0 := h.c0
  have H := Lib.hid h
  have HP := Lib.hid (fun (W : World) (hW : PRd W xb rb b D st) => hW.peek)
  have hf0 := field0
  have hf1 := field1
  have hf2 := field2
  have g1 : ((st.hd.kind : Int) == 3) = false := by rw [beq_eq_false_iff_ne]; omega
  have HN0 := Lib.hid (fun tb : Nat => skn (w := w) (xb := xb) (rb := rb) (b := b) (D := D) (tb := tb) (st := st) ⟨#[116, 114, 117, 101]⟩ ht)
  have HN1 := Lib.hid (fun tb : Nat => skn (w := w) (xb := xb) (rb := rb) (b := b) (D := D) (tb := tb) (st := st) ⟨#[102, 97, 108, 115, 101]⟩ hf)
  have HTK := Lib.hid (fun (W : World) (hW : PRd W xb rb b D st) => hW.skip_yes ⟨#[40]⟩ hi)
  have HR := Lib.hid (show atomS d st = enclS d st.hd.pos st.tl by unfold atomS; rw [if_neg hk, if_neg (by rw [ht]; simp), if_neg (by rw [hf]; simp), if_pos hi])
  have HEN := Lib.hid (fun (W : World) (hW : PRd W xb rb b D st.tl) => pencl_any (d := d) hD st.hd.pos W hW)
  clear h hk hi ht hf hD
  go_enter Tryz.func178, Tryz.ntmps178
  have hne := World.new_ne w ⟨xb, 0, none⟩ c0
  go_wp2_with fail
  refine calls_gen (P := fun W => PRd W xb rb b D st ∧ Bx W w.heap.size 27 zc4 ∧ Fx (X2 xb rb) w W) ⟨H.out.alloc _, Bx.new w 27 zc4, (Fx.refl _ _).alloc _⟩ ?_
  rintro W ⟨hM, hB, hF⟩
  refine (HP.out W hM).mono ?_
  rintro e w1 ⟨rfl, hb1⟩
  have hs1 := hB.lt
  have hz1 := hb1.size
  have A := Lib.hid (show Am w (w1.alloc (.cells #[.int .i64 (st.hd.kind : Int), .string ⟨st.hd.text.toArray⟩, .int .i64 (st.hd.pos : Int)] 152)) xb rb b D w1.heap.size st from ⟨(hM.below hb1).alloc _, Bx.new w1 152 [_, _, _], (hB.below hb1).alloc _, (hF.on hb1).alloc _, by omega⟩)
  have c0 := (hM.below hb1).c0
  have hx1 := (hM.below hb1).ltx
  clear hM hB hF hb1
  go_wp2_with fail
  refine (HN0.out _ _ A.out).mono ?_
  rintro e wn0 ⟨rfl, A', c0, hx1, t0, t1, t2, hlt⟩
  replace A := Lib.hid A'
  clear A'
  go_wp2_with fail
  refine (HN1.out _ _ A.out).mono ?_
  rintro e wn1 ⟨rfl, A', c0, hx1, t0, t1, t2, hlt⟩
  replace A := Lib.hid A'
  clear A'
  go_wp2_with fail
  refine (HTK.out _ A.out.m).mono ?_
  rintro e w3 ⟨rfl, hM3, hF3⟩
  have hT3 := A.out.t.fx hF3 (H.out.n2 (by have := A.out.lt; omega))
  obtain ⟨t0, t1, t2⟩ := Bx.cells3 hT3
  have hl4 := hT3.lt
  have HB3 := Lib.hid (A.out.r.fx hF3 (H.out.n2 (Nat.le_refl _)))
  have HM3 := Lib.hid hM3
  have HF3 := Lib.hid (A.out.f.trans hF3)
  have hl3 := HB3.out.lt
  clear hM3 hF3 hT3
  go_wp2_with fail
  refine (HEN.out w3 HM3.out).mono ?_
  rintro e w4 ⟨v4, rfl, hO4, hM4, hF4⟩
  have hB4 := HB3.out.fx hF4 (H.out.n2 (Nat.le_refl _))
  have HB4 := Lib.hid hB4
  have HM4 := Lib.hid hM4
  have HO4 := Lib.hid hO4
  have HF4 := Lib.hid (HF3.out.trans hF4)
  obtain ⟨b0, b1, b2, b3⟩ := Bx.cells4 hB4
  obtain ⟨y0, y1, y2, y3⟩ := Bx.frozen4 hB4
  have hl5 := hB4.lt
  clear hO4 hM4 hF4 hB4
  go_wp2
  obtain ⟨d0, d1, d2, d3⟩ := (Bx.set4 (x0 := .string v4.o) (x1 := .string v4.nm) (x2 := .slice v4.A v4.ll v4.cap) (x3 := .int .i64 v4.p) HB4.out).cells4
  rw [HR.out]
  refine bodyPost_ret (v := .agg #[.string v4.o, .string v4.nm, .slice v4.A v4.ll v4.cap, .int .i64 v4.p]) (by simp [results, Tryz.results178, go_sem, d0, d1, d2, d3]) rfl ⟨v4, rfl, ?_, ?_, ?_⟩
  · exact (HO4.out.set4 (.inl (by omega))).mono (by omega) (by simp)
  · exact HM4.out.set4 HB4.out (H.out.lo2)
  · exact HF4.out.set4 (.inl (Nat.le_refl _))
set_option maxHeartbeats 2000000 in
theorem patom_no (d : Dq) (hk : st.hd.kind ≠ 3) (ht : isT st.hd opTrue = false) (hf : isT st.hd opFalse = false) (hi : isT st.hd [40] = false) (w : World) (h : PRd w xb rb b D st) : Calls Tryz.prog 178 #[.pointer (some ⟨xb, 0, none⟩)] w (FmP xb rb b D (atomS d st) w) := by
  have hx := h.ltx
  have c0 := h.c0
  have H := Lib.hid h
  have HP := Lib.hid (fun (W : World) (hW : PRd W xb rb b D st) => hW.peek)
  have hf0 := field0
  have hf1 := field1
  have hf2 := field2
  have g1 : ((st.hd.kind : Int) == 3) = false := by rw [beq_eq_false_iff_ne]; omega
  have HN0 := Lib.hid (fun tb : Nat => skn (w := w) (xb := xb) (rb := rb) (b := b) (D := D) (tb := tb) (st := st) ⟨#[116, 114, 117, 101]⟩ ht)
  have HN1 := Lib.hid (fun tb : Nat => skn (w := w) (xb := xb) (rb := rb) (b := b) (D := D) (tb := tb) (st := st) ⟨#[102, 97, 108, 115, 101]⟩ hf)
  have HN2 := Lib.hid (fun tb : Nat => skn (w := w) (xb := xb) (rb := rb) (b := b) (D := D) (tb := tb) (st := st) ⟨#[40]⟩ hi)
  have HR := Lib.hid (show atomS d st = (none, st.fail 20) by unfold atomS; rw [if_neg hk, if_neg (by rw [ht]; simp), if_neg (by rw [hf]; simp), if_neg (by rw [hi]; simp)])
  clear h hk hi ht hf
  go_enter Tryz.func178, Tryz.ntmps178
  have hne := World.new_ne w ⟨xb, 0, none⟩ c0
  go_wp2_with fail
  refine calls_gen (P := fun W => PRd W xb rb b D st ∧ Bx W w.heap.size 27 zc4 ∧ Fx (X2 xb rb) w W) ⟨H.out.alloc _, Bx.new w 27 zc4, (Fx.refl _ _).alloc _⟩ ?_
  rintro W ⟨hM, hB, hF⟩
  refine (HP.out W hM).mono ?_
  rintro e w1 ⟨rfl, hb1⟩
  have hs1 := hB.lt
  have hz1 := hb1.size
  have A := Lib.hid (show Am w (w1.alloc (.cells #[.int .i64 (st.hd.kind : Int), .string ⟨st.hd.text.toArray⟩, .int .i64 (st.hd.pos : Int)] 152)) xb rb b D w1.heap.size st from ⟨(hM.below hb1).alloc _, Bx.new w1 152 [_, _, _], (hB.below hb1).alloc _, (hF.on hb1).alloc _, by omega⟩)
  have c0 := (hM.below hb1).c0
  have hx1 := (hM.below hb1).ltx
  clear hM hB hF hb1
  go_wp2_with fail
  refine (HN0.out _ _ A.out).mono ?_
  rintro e wn0 ⟨rfl, A', c0, hx1, t0, t1, t2, hlt⟩
  replace A := Lib.hid A'
  clear A'
  go_wp2_with fail
  refine (HN1.out _ _ A.out).mono ?_
  rintro e wn1 ⟨rfl, A', c0, hx1, t0, t1, t2, hlt⟩
  replace A := Lib.hid A'
  clear A'
  go_wp2_with fail
  refine (HN2.out _ _ A.out).mono ?_
  rintro e wn2 ⟨rfl, A', c0, hx1, t0, t1, t2, hlt⟩
  replace A := Lib.hid A'
  clear A'
  go_wp2_with fail
  refine (prefuse_any _ A.out.m).mono ?_
  rintro e w3 ⟨rfl, hM3, hF3⟩
  have hB3 := A.out.r.fx hF3 (H.out.n2 (Nat.le_refl _))
  have HB3 := Lib.hid hB3
  have HM3 := Lib.hid hM3
  have HF3 := Lib.hid (A.out.f.trans hF3)
  obtain ⟨b0, b1, b2, b3⟩ := Bx.cells4 hB3
  obtain ⟨y0, y1, y2, y3⟩ := Bx.frozen4 hB3
  have hl3 := hB3.lt
  clear hM3 hF3 hB3
  go_wp2
  obtain ⟨d0, d1, d2, d3⟩ := (Bx.set4 (x0 := .string ⟨#[]⟩) (x1 := .string ⟨#[]⟩) (x2 := .slice none 0 0) (x3 := .int .i64 0) HB3.out).cells4
  rw [HR.out]
  refine bodyPost_ret (v := .agg #[.string ⟨#[]⟩, .string ⟨#[]⟩, .slice none 0 0, .int .i64 0]) (by simp [results, Tryz.results178, go_sem, d0, d1, d2, d3]) rfl ⟨fv0, rfl, trivial, ?_, ?_⟩
  · exact HM3.out.set4 HB3.out (H.out.lo2)
  · exact HF3.out.set4 (.inl (Nat.le_refl _))
theorem patom_any {d : Dq} (hD : DFC 42 d.f D) : RFC 178 (atomS d) D := by
  intro xb rb b st w h
  by_cases hk : st.hd.kind = 3
  · exact patom_k3 d hk w h
  cases ht : isT st.hd opTrue with
  | true => exact patom_tt d hk ht w h
  | false =>
    cases hf : isT st.hd opFalse with
    | true => exact patom_ff d hk ht hf w h
    | false =>
      cases hi : isT st.hd [40] with
      | true => exact patom_lp d hD hk ht hf hi w h
      | false => exact patom_no d hk ht hf hi w h
end
end
section
open Go.RowKit

section
variable {xb rb b D : Nat} {st : St}
set_option maxHeartbeats 2000000 in
theorem ppref_no {d : Dq} (hA : RFC 178 (atomS d) D) (w : World) (h : PRd w xb rb b D st) (hsp : sp 4 st.hd = false) : Calls Tryz.prog 166 #[.pointer (some ⟨xb, 0, none⟩)] w (FmP xb rb b D (prefS d st) w) := by
  have hx := h.ltx
  have c0 := h.c0
  have H := Lib.hid h
  have HP := Lib.hid (fun (W : World) (hW : PRd W xb rb b D st) => hW.peek)
  have HS := Lib.hid (fun (W : World) (hW : PRd W xb rb b D st) => psign_no W hW hsp)
  have HA := Lib.hid hA
  have HR := Lib.hid (show prefS d st = atomS d st by unfold prefS; rw [if_neg (by rw [hsp]; simp)])
  have hf0 := field0
  have hf1 := field1
  have hf2 := field2
  clear h hsp hA
  go_enter Tryz.func166, Tryz.ntmps166
  have hne := World.new_ne w ⟨xb, 0, none⟩ c0
  go_wp2_with fail
  refine calls_gen (P := fun W => PRd W xb rb b D st ∧ Bx W w.heap.size 27 zc4 ∧ Fx (X2 xb rb) w W) ⟨H.out.alloc _, Bx.new w 27 zc4, (Fx.refl _ _).alloc _⟩ ?_
  rintro W ⟨hM, hB, hF⟩
  refine (HP.out W hM).mono ?_
  rintro e w1 ⟨rfl, hb1⟩
  have HM1 := Lib.hid (hM.below hb1)
  have HB1 := Lib.hid (hB.below hb1)
  have HF1 := Lib.hid (hF.on hb1)
  have hl1 := HB1.out.lt
  clear hM hB hF hb1
  go_wp2_with fail
  refine (HS.out w1 HM1.out).mono ?_
  rintro e w2 ⟨rfl, hb2⟩
  have HM2 := Lib.hid (HM1.out.below hb2)
  have HB2 := Lib.hid (HB1.out.below hb2)
  have HF2 := Lib.hid (HF1.out.on hb2)
  have hl2 := HB2.out.lt
  clear hb2
  go_wp2_with fail
  refine (HA.out xb rb b st w2 HM2.out).mono ?_
  rintro e w4 ⟨v4, rfl, hO4, hM4, hF4⟩
  have hB4 := HB2.out.fx hF4 (H.out.n2 (Nat.le_refl _))
  have HB4 := Lib.hid hB4
  have HM4 := Lib.hid hM4
  have HO4 := Lib.hid hO4
  have HF4 := Lib.hid (HF2.out.trans hF4)
  obtain ⟨b0, b1, b2, b3⟩ := Bx.cells4 hB4
  obtain ⟨y0, y1, y2, y3⟩ := Bx.frozen4 hB4
  have hl5 := hB4.lt
  clear hO4 hM4 hF4 hB4
  go_wp2
  obtain ⟨d0, d1, d2, d3⟩ := (Bx.set4 (x0 := .string v4.o) (x1 := .string v4.nm) (x2 := .slice v4.A v4.ll v4.cap) (x3 := .int .i64 v4.p) HB4.out).cells4
  rw [HR.out]
  refine bodyPost_ret (v := .agg #[.string v4.o, .string v4.nm, .slice v4.A v4.ll v4.cap, .int .i64 v4.p]) (by simp [results, Tryz.results166, go_sem, d0, d1, d2, d3]) rfl ⟨v4, rfl, ?_, ?_, ?_⟩
  · exact (HO4.out.set4 (.inl (by omega))).mono (by omega) (by simp)
  · exact HM4.out.set4 HB4.out (H.out.lo2)
  · exact HF4.out.set4 (.inl (Nat.le_refl _))
set_option maxHeartbeats 2000000 in
theorem ppref_yes {d : Dq} (hX : DFC 166 d.x D) (w : World) (h : PRd w xb rb b D st) (hsp : sp 4 st.hd = true) : Calls Tryz.prog 166 #[.pointer (some ⟨xb, 0, none⟩)] w (FmP xb rb b D (prefS d st) w) := by
  have hx := h.ltx
  have c0 := h.c0
  have H := Lib.hid h
  have HP := Lib.hid (fun (W : World) (hW : PRd W xb rb b D st) => hW.peek)
  have HS := Lib.hid (fun (W : World) (hW : PRd W xb rb b D st) => psign_yes W hW hsp)
  have HX := Lib.hid hX
  have HR := Lib.hid (show prefS d st = (unO st.hd.text st.hd.pos (d.x st.tl).1, (d.x st.tl).2) by unfold prefS; rw [if_pos hsp])
  have hf0 := field0
  have hf1 := field1
  have hf2 := field2
  clear h hsp hX
  go_enter Tryz.func166, Tryz.ntmps166
  have hne := World.new_ne w ⟨xb, 0, none⟩ c0
  go_wp2_with fail
  refine calls_gen (P := fun W => PRd W xb rb b D st ∧ Bx W w.heap.size 27 zc4 ∧ Fx (X2 xb rb) w W) ⟨H.out.alloc _, Bx.new w 27 zc4, (Fx.refl _ _).alloc _⟩ ?_
  rintro W ⟨hM, hB, hF⟩
  refine (HP.out W hM).mono ?_
  rintro e w1 ⟨rfl, hb1⟩
  have HM1 := Lib.hid (hM.below hb1)
  have HB1 := Lib.hid (hB.below hb1)
  have HF1 := Lib.hid (hF.on hb1)
  have hl1 := HB1.out.lt
  clear hM hB hF hb1
  go_wp2_with fail
  refine (HS.out w1 HM1.out).mono ?_
  rintro e w2 ⟨rfl, hM2, hF2⟩
  have HM2 := Lib.hid hM2
  have HB2 := Lib.hid (HB1.out.fx hF2 (H.out.n2 (Nat.le_refl _)))
  have HF2 := Lib.hid (HF1.out.trans hF2)
  have hl2 := HB2.out.lt
  clear hM2 hF2
  go_wp2_with fail
  refine (HX.out xb rb b _ w2 HM2.out).mono ?_
  rintro e w4 ⟨v4, rfl, hO4, hM4, hF4⟩
  have hz4 := hF4.size
  have hB4 := HB2.out.fx hF4 (H.out.n2 (Nat.le_refl _))
  have HB4 := Lib.hid hB4
  have HM4 := Lib.hid hM4
  have HO4 := Lib.hid hO4
  have HF4 := Lib.hid (HF2.out.trans hF4)
  obtain ⟨b0, b1, b2, b3⟩ := Bx.cells4 hB4
  obtain ⟨y0, y1, y2, y3⟩ := Bx.frozen4 hB4
  have hl5 := hB4.lt
  clear hO4 hM4 hF4 hB4
  go_wp2
  obtain ⟨d0, d1, d2, d3⟩ := ((Bx.set4 (x0 := .string ⟨st.hd.text.toArray⟩) (x1 := .string ⟨#[]⟩) (x2 := .slice (some ⟨w4.heap.size, 0, none⟩) 1 1) (x3 := .int .i64 (st.hd.pos : Int)) HB4.out).alloc (.cells #[.string v4.o, .string v4.nm, .slice v4.A v4.ll v4.cap, .int .i64 v4.p] 27)).cells4
  rw [HR.out]
  refine bodyPost_ret (v := .agg #[.string ⟨st.hd.text.toArray⟩, .string ⟨#[]⟩, .slice (some ⟨w4.heap.size, 0, none⟩) 1 1, .int .i64 (st.hd.pos : Int)]) (by simp [results, Tryz.results166, go_sem, d0, d1, d2, d3]) rfl ⟨⟨⟨st.hd.text.toArray⟩, ⟨#[]⟩, some ⟨w4.heap.size, 0, none⟩, 1, 1, (st.hd.pos : Int)⟩, rfl, ?_, ?_, ?_⟩
  · refine fo_un _ (((HO4.out.set4 (.inl (by omega))).alloc _).mono (by omega) (by simp)) ?_ (heap_new_at (by simp) _)
    unfold Rg
    simp
    omega
  · exact (HM4.out.set4 HB4.out (H.out.lo2)).alloc _
  · exact (HF4.out.set4 (.inl (Nat.le_refl _))).alloc _
theorem ppref_any {d : Dq} (hA : RFC 178 (atomS d) D) (hX : DFC 166 d.x D) : RFC 166 (prefS d) D := by
  intro xb rb b st w h
  cases hsp : sp 4 st.hd with
  | true => exact ppref_yes hX w h hsp
  | false => exact ppref_no hA w h hsp
set_option maxHeartbeats 1000000 in
theorem puntil_any {d : Dq} (hx : RFC 166 (prefS d) D) (hu : DFC 138 d.u D) : RFC 138 (untlS d) D := by
  intro xb rb b st w h
  have H := Lib.hid h
  have HG := Lib.hid (fun (W : World) (hW : PRd W xb rb b D st) => pright_ppref (k := 3) hx hu W hW)
  clear h hx hu
  go_enter Tryz.func138, Tryz.ntmps138
  go_wp2_with fail
  refine calls_gen (P := fun W => PRd W xb rb b D st ∧ Bx W w.heap.size 27 zc4 ∧ Fx (X2 xb rb) w W) ⟨H.out.alloc _, Bx.new w 27 zc4, (Fx.refl _ _).alloc _⟩ ?_
  rintro W ⟨hM, hB, hF⟩
  have hl := hB.lt
  refine (HG.out W hM).mono ?_
  rintro e w4 ⟨v4, rfl, hO4, hM4, hF4⟩
  have hB4 := hB.fx hF4 (H.out.n2 (Nat.le_refl _))
  have HB4 := Lib.hid hB4
  have HM4 := Lib.hid hM4
  have HO4 := Lib.hid hO4
  have HF4 := Lib.hid (hF.trans hF4)
  obtain ⟨b0, b1, b2, b3⟩ := Bx.cells4 hB4
  obtain ⟨y0, y1, y2, y3⟩ := Bx.frozen4 hB4
  have hl5 := hB4.lt
  clear hM hB hF hO4 hM4 hF4 hB4
  go_wp2
  obtain ⟨d0, d1, d2, d3⟩ := (Bx.set4 (x0 := .string v4.o) (x1 := .string v4.nm) (x2 := .slice v4.A v4.ll v4.cap) (x3 := .int .i64 v4.p) HB4.out).cells4
  refine bodyPost_ret (v := .agg #[.string v4.o, .string v4.nm, .slice v4.A v4.ll v4.cap, .int .i64 v4.p]) (by simp [results, Tryz.results138, go_sem, d0, d1, d2, d3]) rfl ⟨v4, rfl, ?_, ?_, ?_⟩
  · exact (HO4.out.set4 (.inl (by omega))).mono (by omega) (by simp)
  · exact HM4.out.set4 HB4.out (H.out.lo2)
  · exact HF4.out.set4 (.inl (Nat.le_refl _))
set_option maxHeartbeats 1000000 in
theorem pconj_any {d : Dq} (hr : Rok (untlS d)) (hu : RFC 138 (untlS d) D) : RFC 110 (conjS d) D := by
  intro xb rb b st w h
  have H := Lib.hid h
  have HG := Lib.hid (fun (W : World) (hW : PRd W xb rb b D st) => pleft_puntil (k := 2) hr hu W hW)
  clear h hr hu
  go_enter Tryz.func110, Tryz.ntmps110
  go_wp2_with fail
  refine calls_gen (P := fun W => PRd W xb rb b D st ∧ Bx W w.heap.size 27 zc4 ∧ Fx (X2 xb rb) w W) ⟨H.out.alloc _, Bx.new w 27 zc4, (Fx.refl _ _).alloc _⟩ ?_
  rintro W ⟨hM, hB, hF⟩
  have hl := hB.lt
  refine (HG.out W hM).mono ?_
  rintro e w4 ⟨v4, rfl, hO4, hM4, hF4⟩
  have hB4 := hB.fx hF4 (H.out.n2 (Nat.le_refl _))
  have HB4 := Lib.hid hB4
  have HM4 := Lib.hid hM4
  have HO4 := Lib.hid hO4
  have HF4 := Lib.hid (hF.trans hF4)
  obtain ⟨b0, b1, b2, b3⟩ := Bx.cells4 hB4
  obtain ⟨y0, y1, y2, y3⟩ := Bx.frozen4 hB4
  have hl5 := hB4.lt
  clear hM hB hF hO4 hM4 hF4 hB4
  go_wp2
  obtain ⟨d0, d1, d2, d3⟩ := (Bx.set4 (x0 := .string v4.o) (x1 := .string v4.nm) (x2 := .slice v4.A v4.ll v4.cap) (x3 := .int .i64 v4.p) HB4.out).cells4
  refine bodyPost_ret (v := .agg #[.string v4.o, .string v4.nm, .slice v4.A v4.ll v4.cap, .int .i64 v4.p]) (by simp [results, Tryz.results110, go_sem, d0, d1, d2, d3]) rfl ⟨v4, rfl, ?_, ?_, ?_⟩
  · exact (HO4.out.set4 (.inl (by omega))).mono (by omega) (by simp)
  · exact HM4.out.set4 HB4.out (H.out.lo2)
  · exact HF4.out.set4 (.inl (Nat.le_refl _))
set_option maxHeartbeats 1000000 in
theorem pdisj_any {d : Dq} (hr : Rok (conjS d)) (hc : RFC 110 (conjS d) D) : RFC 69 (disjS d) D := by
  intro xb rb b st w h
  have H := Lib.hid h
  have HG := Lib.hid (fun (W : World) (hW : PRd W xb rb b D st) => pleft_pconj (k := 1) hr hc W hW)
  clear h hr hc
  go_enter Tryz.func69, Tryz.ntmps69
  go_wp2_with fail
  refine calls_gen (P := fun W => PRd W xb rb b D st ∧ Bx W w.heap.size 27 zc4 ∧ Fx (X2 xb rb) w W) ⟨H.out.alloc _, Bx.new w 27 zc4, (Fx.refl _ _).alloc _⟩ ?_
  rintro W ⟨hM, hB, hF⟩
  have hl := hB.lt
  refine (HG.out W hM).mono ?_
  rintro e w4 ⟨v4, rfl, hO4, hM4, hF4⟩
  have hB4 := hB.fx hF4 (H.out.n2 (Nat.le_refl _))
  have HB4 := Lib.hid hB4
  have HM4 := Lib.hid hM4
  have HO4 := Lib.hid hO4
  have HF4 := Lib.hid (hF.trans hF4)
  obtain ⟨b0, b1, b2, b3⟩ := Bx.cells4 hB4
  obtain ⟨y0, y1, y2, y3⟩ := Bx.frozen4 hB4
  have hl5 := hB4.lt
  clear hM hB hF hO4 hM4 hF4 hB4
  go_wp2
  obtain ⟨d0, d1, d2, d3⟩ := (Bx.set4 (x0 := .string v4.o) (x1 := .string v4.nm) (x2 := .slice v4.A v4.ll v4.cap) (x3 := .int .i64 v4.p) HB4.out).cells4
  refine bodyPost_ret (v := .agg #[.string v4.o, .string v4.nm, .slice v4.A v4.ll v4.cap, .int .i64 v4.p]) (by simp [results, Tryz.results69, go_sem, d0, d1, d2, d3]) rfl ⟨v4, rfl, ?_, ?_, ?_⟩
  · exact (HO4.out.set4 (.inl (by omega))).mono (by omega) (by simp)
  · exact HM4.out.set4 HB4.out (H.out.lo2)
  · exact HF4.out.set4 (.inl (Nat.le_refl _))
set_option maxHeartbeats 1000000 in
theorem pform_any {d : Dq} (ho : RFC 69 (disjS d) D) (hf : DFC 42 d.f D) : RFC 42 (formS d) D := by
  intro xb rb b st w h
  have H := Lib.hid h
  have HG := Lib.hid (fun (W : World) (hW : PRd W xb rb b D st) => pright_pdisj (k := 0) ho hf W hW)
  clear h ho hf
  go_enter Tryz.func42, Tryz.ntmps42
  go_wp2_with fail
  refine calls_gen (P := fun W => PRd W xb rb b D st ∧ Bx W w.heap.size 27 zc4 ∧ Fx (X2 xb rb) w W) ⟨H.out.alloc _, Bx.new w 27 zc4, (Fx.refl _ _).alloc _⟩ ?_
  rintro W ⟨hM, hB, hF⟩
  have hl := hB.lt
  refine (HG.out W hM).mono ?_
  rintro e w4 ⟨v4, rfl, hO4, hM4, hF4⟩
  have hB4 := hB.fx hF4 (H.out.n2 (Nat.le_refl _))
  have HB4 := Lib.hid hB4
  have HM4 := Lib.hid hM4
  have HO4 := Lib.hid hO4
  have HF4 := Lib.hid (hF.trans hF4)
  obtain ⟨b0, b1, b2, b3⟩ := Bx.cells4 hB4
  obtain ⟨y0, y1, y2, y3⟩ := Bx.frozen4 hB4
  have hl5 := hB4.lt
  clear hM hB hF hO4 hM4 hF4 hB4
  go_wp2
  obtain ⟨d0, d1, d2, d3⟩ := (Bx.set4 (x0 := .string v4.o) (x1 := .string v4.nm) (x2 := .slice v4.A v4.ll v4.cap) (x3 := .int .i64 v4.p) HB4.out).cells4
  refine bodyPost_ret (v := .agg #[.string v4.o, .string v4.nm, .slice v4.A v4.ll v4.cap, .int .i64 v4.p]) (by simp [results, Tryz.results42, go_sem, d0, d1, d2, d3]) rfl ⟨v4, rfl, ?_, ?_, ?_⟩
  · exact (HO4.out.set4 (.inl (by omega))).mono (by omega) (by simp)
  · exact HM4.out.set4 HB4.out (H.out.lo2)
  · exact HF4.out.set4 (.inl (Nat.le_refl _))
structure DF3 (l : Nat) : Prop where
  f : DFC 42 (dq l).f l
  u : DFC 138 (dq l).u l
  x : DFC 166 (dq l).x l
theorem rfc_all {l : Nat} (h : DF3 l) : RFC 42 (formS (dq l)) l ∧ RFC 138 (untlS (dq l)) l ∧ RFC 166 (prefS (dq l)) l := by
  have r := rok_all (rok_dq l)
  have a := patom_any h.f
  have x := ppref_any a h.x
  have u := puntil_any x h.u
  have c := pconj_any r.u u
  have o := pdisj_any r.a c
  exact ⟨pform_any o h.f, u, x⟩
theorem df3 : ∀ l, DF3 l
  | 0 => ⟨fun _ _ _ _ w h => pdeeper_no w h _ _, fun _ _ _ _ w h => pdeeper_no w h _ _, fun _ _ _ _ w h => pdeeper_no w h _ _⟩
  | l + 1 => by
    obtain ⟨f, u, x⟩ := rfc_all (df3 l)
    have e : dq (l + 1) = ⟨formS (dq l), untlS (dq l), prefS (dq l)⟩ := by rw [dq]
    refine ⟨?_, ?_, ?_⟩ <;> rw [e]
    · exact pdeeper_pform f
    · exact pdeeper_puntil u
    · exact pdeeper_ppref x
/-- A formula, with so many levels to go down. -/
theorem form_any (l : Nat) : RFC 42 (formS (dq l)) l := (rfc_all (df3 l)).1
end
end
section
open Go.RowKit Go.Sort

/-- What Parse leaves. -/
def PFQ (res : FP) (w : World) (e : Ending) (w' : World) : Prop :=
  match res with
  | .ok f => ∃ v : FV, e = .returned (.tuple #[.agg #[.string v.o, .string v.nm, .slice v.A v.ll v.cap, .int .i64 v.p], .nilIface]) ∧ FO w' w.heap.size w'.heap.size (some f) v ∧ Below w.heap.size w w'
  | .er c p => ∃ b, e = .returned (.tuple #[.agg #[.string ⟨#[]⟩, .string ⟨#[]⟩, .slice none 0 0, .int .i64 0], .iface 190 (.pointer (some ⟨b, 0, none⟩))]) ∧ AtE w' b p c ∧ Below w.heap.size w w'
theorem fx_low {X : Nat → Prop} {a c : World} {B : Nat} (h : Fx X a c) (hB : B ≤ a.heap.size) (hx : ∀ k, X k → B ≤ k) : Below B a c := ⟨h.os, h.tape, h.output, h.size, fun k hk => h.block k (by omega) (fun e => by have := hx k e; omega)⟩
theorem Bx.low {w w' : World} {B q : Nat} {t : TypeId} {cs : List Value} (h : Bx w q t cs) (hb : Below B w w') (hq : q < B) : Bx w' q t cs := (hb.block q hq).trans h
theorem below_set4 {B q : Nat} {a w : World} {x0 x1 x2 x3 : Value} (h : Below B a w) (hq : B ≤ q) : Below B a ((((w.setCell ⟨q, 0, none⟩ x0).setCell ⟨q, 1, none⟩ x1).setCell ⟨q, 2, none⟩ x2).setCell ⟨q, 3, none⟩ x3) :=
  (((h.setCell (p := ⟨q, 0, none⟩) hq x0).setCell (p := ⟨q, 1, none⟩) hq x1).setCell (p := ⟨q, 2, none⟩) hq x2).setCell (p := ⟨q, 3, none⟩) hq x3
theorem AtE.far4 {w : World} {b q : Nat} {p n : Int} {x0 x1 x2 x3 : Value} (h : AtE w b p n) (hq : b ≠ q) : AtE ((((w.setCell ⟨q, 0, none⟩ x0).setCell ⟨q, 1, none⟩ x1).setCell ⟨q, 2, none⟩ x2).setCell ⟨q, 3, none⟩ x3) b p n :=
  (((h.far (a := ⟨q, 0, none⟩) hq x0).far (a := ⟨q, 1, none⟩) hq x1).far (a := ⟨q, 2, none⟩) hq x2).far (a := ⟨q, 3, none⟩) hq x3
theorem glob_lo {w : World} (h : GlobS w) : 2 < w.heap.size ∧ 0 < w.heap.size := by
  have h0 := World.block_lt_of_cell? w _ h.glob.err
  obtain ⟨te, pe, he⟩ := h.rng
  have h1 := World.block_lt_of_cell? w _ he
  exact ⟨h1, h0⟩
set_option maxHeartbeats 2000000 in
theorem preadf_er {s : ByteArray} {l c p : Nat} (w : World) (hG : GlobS w) (hs : s.size ≤ 65536) (h64 : l + 1 ≤ 64) (htk : toks s.data.toList = .error (c, p)) : Calls Tryz.prog 41 #[.string s, .int .i64 ((l + 1 : Nat) : Int), .func (.func 42) #[] #[]] w (PFQ (.er c p) w) := by
  have g1 : decide ((l : Int) + 1 < 1) = false := by simp; omega
  have g2 : decide ((64 : Int) < (l : Int) + 1) = false := by simp; omega
  have g3 : (l : Int) + 1 - 1 = (l : Int) := by omega
  have HG := Lib.hid hG
  have HS := Lib.hid hs
  have HLO := Lib.hid (glob_lo hG)
  have HT := Lib.hid htk
  clear hG hs h64 htk
  go_enter Tryz.func41, Tryz.ntmps41
  go_wp2_with fail
  refine calls_gen (P := fun W => Bx W w.heap.size 27 zc4 ∧ Bx W (w.heap.size + 1) 27 zc4 ∧ Below w.heap.size w W) ⟨(Bx.new w 27 zc4).alloc _, Bx.newAt (by simp) 27 zc4, ((Below.refl _ _).alloc (Nat.le_refl _) _).alloc (by simp) _⟩ ?_
  rintro W ⟨hB, hN, hF⟩
  refine (new_erX W (HG.out.below hF) HS.out HT.out).mono ?_
  rintro e w1 ⟨b, rfl, hbb, hx, hA, hb⟩
  have hz := hF.size
  have hq := hB.lt
  have hq1 := hN.lt
  have hB1 := hB.below hb
  have hN1 := hN.below hb
  obtain ⟨b0, b1, b2, b3⟩ := Bx.cells4 hB1
  obtain ⟨y0, y1, y2, y3⟩ := Bx.frozen4 hB1
  obtain ⟨n0, n1, n2, n3⟩ := Bx.cells4 hN1
  have hl1 := hB1.lt
  have hl2 := hN1.lt
  have HB1 := Lib.hid hB1
  have HA := Lib.hid hA
  have HF1 := Lib.hid (hF.trans (hb.mono hF.size))
  clear hB hN hF hb hA hB1 hN1
  go_wp2
  obtain ⟨d0, d1, d2, d3⟩ := (Bx.set4 (x0 := .string ⟨#[]⟩) (x1 := .string ⟨#[]⟩) (x2 := .slice none 0 0) (x3 := .int .i64 0) HB1.out).cells4
  refine bodyPost_ret (v := .tuple #[.agg #[.string ⟨#[]⟩, .string ⟨#[]⟩, .slice none 0 0, .int .i64 0], .iface 190 (.pointer (some ⟨b, 0, none⟩))]) (by simp [results, Tryz.results41, go_sem, d0, d1, d2, d3]) rfl ⟨b, rfl, ?_, ?_⟩
  · exact HA.out.far4 (by omega)
  · exact below_set4 HF1.out (Nat.le_refl _)
set_option maxHeartbeats 2000000 in
theorem preadf_ok {s : ByteArray} {l : Nat} {ts : List Tok} {f : Fo} {us : List Tok} (hf : formS (dq l) (.good ts) = (some f, .good us)) (h0 : (hd us).kind = 0) (w : World) (hG : GlobS w) (hs : s.size ≤ 65536) (h64 : l + 1 ≤ 64) (htk : toks s.data.toList = .ok ts) : Calls Tryz.prog 41 #[.string s, .int .i64 ((l + 1 : Nat) : Int), .func (.func 42) #[] #[]] w (PFQ (.ok f) w) := by
  have g1 : decide ((l : Int) + 1 < 1) = false := by simp; omega
  have g2 : decide ((64 : Int) < (l : Int) + 1) = false := by simp; omega
  have g3 : (l : Int) + 1 - 1 = (l : Int) := by omega
  have HG := Lib.hid hG
  have HS := Lib.hid hs
  have HLO := Lib.hid (glob_lo hG)
  have HT := Lib.hid htk
  have HF0 := Lib.hid (form_any l)
  have hl64 : l ≤ 64 := by omega
  have HFF := Lib.hid hf
  have H0 := Lib.hid h0
  clear hf h0
  clear hG hs h64 htk
  go_enter Tryz.func41, Tryz.ntmps41
  go_wp2_with fail
  refine calls_gen (P := fun W => Bx W w.heap.size 27 zc4 ∧ Bx W (w.heap.size + 1) 27 zc4 ∧ Below w.heap.size w W) ⟨(Bx.new w 27 zc4).alloc _, Bx.newAt (by simp) 27 zc4, ((Below.refl _ _).alloc (Nat.le_refl _) _).alloc (by simp) _⟩ ?_
  rintro W ⟨hB, hN, hF⟩
  refine (new_tr W (HG.out.below hF) HS.out HT.out).mono ?_
  rintro e w1 ⟨rb, rfl, hrb, hTR, hb⟩
  have hz := hF.size
  have hq := hB.lt
  have hq1 := hN.lt
  have hz1 := hb.size
  have HB1 := Lib.hid (hB.below hb)
  have HN1 := Lib.hid (hN.below hb)
  have HTR := Lib.hid hTR
  have HF1 := Lib.hid (hF.trans (hb.mono hF.size))
  clear hB hN hF hb hTR
  go_wp2_with fail
  refine calls_gen (P := fun W2 => PRd W2 w1.heap.size rb w.heap.size l (.good ts) ∧ Bx W2 w.heap.size 27 zc4 ∧ Bx W2 (w.heap.size + 1) 27 zc4 ∧ Below w.heap.size w W2) ⟨⟨⟨.nilIface, Bx.new w1 102 [.pointer (some ⟨rb, 0, none⟩), .int .i64 (l : Int), .nilIface], rfl⟩, HTR.out.below ((Below.refl _ _).alloc (Nat.le_refl _) _), (HG.out.below HF1.out).below ((Below.refl _ _).alloc (Nat.le_refl _) _), hl64, HLO.out, ⟨by omega, by omega⟩, by simp; have := HTR.out.ltr; omega⟩, HB1.out.alloc _, HN1.out.alloc _, HF1.out.alloc (by omega) _⟩ ?_
  rintro W2 ⟨hM, hB, hN, hF⟩
  refine (HF0.out _ rb w.heap.size _ W2 hM).mono ?_
  rintro e w3 ⟨v3, rfl, hO3, hM3, hF3⟩
  have hz3 := hF3.size
  have hz2 := hN.lt
  have hbl : Below (w.heap.size + 2) W2 w3 := fx_low hF3 (by omega) (fun k hk => by rcases hk with rfl | rfl <;> omega)
  have HB3 := Lib.hid (hB.low hbl (by omega))
  have HN3 := Lib.hid (hN.low hbl (by omega))
  have HM3 := Lib.hid hM3
  have HO3 := Lib.hid hO3
  have HF3 := Lib.hid (hF.trans (hbl.mono (by omega)))
  clear hM hB hN hF hO3 hM3 hF3 hbl
  go_wp2_with fail
  refine calls_gen (P := fun W3 => PRd W3 w1.heap.size rb w.heap.size l (formS (dq l) (.good ts)).2 ∧ Bx W3 w.heap.size 27 zc4 ∧ Bx W3 (w.heap.size + 1) 27 zc4 ∧ Bx W3 w3.heap.size 27 v3.c ∧ FO W3 (W2.heap.size + 1) w3.heap.size (formS (dq l) (.good ts)).1 v3 ∧ Below w.heap.size w W3) ⟨HM3.out.alloc _, HB3.out.alloc _, HN3.out.alloc _, Bx.new w3 27 v3.c, HO3.out.alloc _, HF3.out.alloc (by omega) _⟩ ?_
  rintro W3 ⟨hM, hB, hN, hE, hO, hF⟩
  refine (pisend_any W3 hM).mono ?_
  rintro e w4 ⟨rfl, hb4⟩
  rw [HFF.out] at hM hO
  rw [show decide ((formS (dq l) (.good ts)).2.hd.kind = 0) = true by rw [HFF.out]; exact decide_eq_true H0.out]
  have hB5 := hB.below hb4
  have hE5 := hE.below hb4
  have hM5 := hM.below hb4
  obtain ⟨vv, c0, c1, c2, z0, z2, hvv⟩ := hM5.cells
  obtain rfl : vv = .nilIface := hvv
  have hx5 := hM5.ltx
  obtain ⟨b0, b1, b2, b3⟩ := Bx.cells4 hB5
  obtain ⟨y0, y1, y2, y3⟩ := Bx.frozen4 hB5
  obtain ⟨e0, e1, e2, e3⟩ := Bx.cells4 hE5
  have hl1 := hB5.lt
  have hl2 := hE5.lt
  have HB5 := Lib.hid hB5
  have HO5 := Lib.hid (hO.below hb4)
  have HF5 := Lib.hid (hF.trans (hb4.mono hF.size))
  have hz5 := hb4.size
  have hz6 := hE.lt
  clear hM hB hN hE hO hF hb4 hM5 hB5 hE5
  go_wp2
  obtain ⟨d0, d1, d2, d3⟩ := (Bx.set4 (x0 := .string v3.o) (x1 := .string v3.nm) (x2 := .slice v3.A v3.ll v3.cap) (x3 := .int .i64 v3.p) HB5.out).cells4
  refine bodyPost_ret (v := .tuple #[.agg #[.string v3.o, .string v3.nm, .slice v3.A v3.ll v3.cap, .int .i64 v3.p], .nilIface]) (by simp [results, Tryz.results41, go_sem, d0, d1, d2, d3]) rfl ⟨v3, rfl, ?_, ?_⟩
  · exact (HO5.out.set4 (.inl (by omega))).mono (by omega) (by simp; omega)
  · exact below_set4 HF5.out (Nat.le_refl _)
set_option maxHeartbeats 2000000 in
theorem preadf_bad {s : ByteArray} {l : Nat} {ts : List Tok} {c p : Nat} {o : Option Fo} (hf : formS (dq l) (.good ts) = (o, .bad c p)) (w : World) (hG : GlobS w) (hs : s.size ≤ 65536) (h64 : l + 1 ≤ 64) (htk : toks s.data.toList = .ok ts) : Calls Tryz.prog 41 #[.string s, .int .i64 ((l + 1 : Nat) : Int), .func (.func 42) #[] #[]] w (PFQ (.er c p) w) := by
  have g1 : decide ((l : Int) + 1 < 1) = false := by simp; omega
  have g2 : decide ((64 : Int) < (l : Int) + 1) = false := by simp; omega
  have g3 : (l : Int) + 1 - 1 = (l : Int) := by omega
  have HG := Lib.hid hG
  have HS := Lib.hid hs
  have HLO := Lib.hid (glob_lo hG)
  have HT := Lib.hid htk
  have HF0 := Lib.hid (form_any l)
  have hl64 : l ≤ 64 := by omega
  have HFF := Lib.hid hf
  clear hf
  clear hG hs h64 htk
  go_enter Tryz.func41, Tryz.ntmps41
  go_wp2_with fail
  refine calls_gen (P := fun W => Bx W w.heap.size 27 zc4 ∧ Bx W (w.heap.size + 1) 27 zc4 ∧ Below w.heap.size w W) ⟨(Bx.new w 27 zc4).alloc _, Bx.newAt (by simp) 27 zc4, ((Below.refl _ _).alloc (Nat.le_refl _) _).alloc (by simp) _⟩ ?_
  rintro W ⟨hB, hN, hF⟩
  refine (new_tr W (HG.out.below hF) HS.out HT.out).mono ?_
  rintro e w1 ⟨rb, rfl, hrb, hTR, hb⟩
  have hz := hF.size
  have hq := hB.lt
  have hq1 := hN.lt
  have hz1 := hb.size
  have HB1 := Lib.hid (hB.below hb)
  have HN1 := Lib.hid (hN.below hb)
  have HTR := Lib.hid hTR
  have HF1 := Lib.hid (hF.trans (hb.mono hF.size))
  clear hB hN hF hb hTR
  go_wp2_with fail
  refine calls_gen (P := fun W2 => PRd W2 w1.heap.size rb w.heap.size l (.good ts) ∧ Bx W2 w.heap.size 27 zc4 ∧ Bx W2 (w.heap.size + 1) 27 zc4 ∧ Below w.heap.size w W2) ⟨⟨⟨.nilIface, Bx.new w1 102 [.pointer (some ⟨rb, 0, none⟩), .int .i64 (l : Int), .nilIface], rfl⟩, HTR.out.below ((Below.refl _ _).alloc (Nat.le_refl _) _), (HG.out.below HF1.out).below ((Below.refl _ _).alloc (Nat.le_refl _) _), hl64, HLO.out, ⟨by omega, by omega⟩, by simp; have := HTR.out.ltr; omega⟩, HB1.out.alloc _, HN1.out.alloc _, HF1.out.alloc (by omega) _⟩ ?_
  rintro W2 ⟨hM, hB, hN, hF⟩
  refine (HF0.out _ rb w.heap.size _ W2 hM).mono ?_
  rintro e w3 ⟨v3, rfl, hO3, hM3, hF3⟩
  have hz3 := hF3.size
  have hz2 := hN.lt
  have hbl : Below (w.heap.size + 2) W2 w3 := fx_low hF3 (by omega) (fun k hk => by rcases hk with rfl | rfl <;> omega)
  have HB3 := Lib.hid (hB.low hbl (by omega))
  have HN3 := Lib.hid (hN.low hbl (by omega))
  have HM3 := Lib.hid hM3
  have HO3 := Lib.hid hO3
  have HF3 := Lib.hid (hF.trans (hbl.mono (by omega)))
  clear hM hB hN hF hO3 hM3 hF3 hbl
  go_wp2_with fail
  refine calls_gen (P := fun W3 => PRd W3 w1.heap.size rb w.heap.size l (formS (dq l) (.good ts)).2 ∧ Bx W3 w.heap.size 27 zc4 ∧ Bx W3 (w.heap.size + 1) 27 zc4 ∧ Bx W3 w3.heap.size 27 v3.c ∧ FO W3 (W2.heap.size + 1) w3.heap.size (formS (dq l) (.good ts)).1 v3 ∧ Below w.heap.size w W3) ⟨HM3.out.alloc _, HB3.out.alloc _, HN3.out.alloc _, Bx.new w3 27 v3.c, HO3.out.alloc _, HF3.out.alloc (by omega) _⟩ ?_
  rintro W3 ⟨hM, hB, hN, hE, hO, hF⟩
  refine (pisend_any W3 hM).mono ?_
  rintro e w4 ⟨rfl, hb4⟩
  rw [HFF.out] at hM hO
  rw [show decide ((formS (dq l) (.good ts)).2.hd.kind = 0) = true by rw [HFF.out]; rfl]
  have hB5 := hB.below hb4
  have hN5 := hN.below hb4
  have hM5 := hM.below hb4
  have hF5 := hF.trans (hb4.mono hF.size)
  clear hM hB hN hE hO hF hb4
  obtain ⟨vv, c0, c1, c2, z0, z2, eb, rfl, hA⟩ := hM5.cells
  have hx5 := hM5.ltx
  obtain ⟨b0, b1, b2, b3⟩ := Bx.cells4 hB5
  obtain ⟨y0, y1, y2, y3⟩ := Bx.frozen4 hB5
  obtain ⟨n0, n1, n2, n3⟩ := Bx.cells4 hN5
  have hl1 := hB5.lt
  have hl2 := hN5.lt
  have heb : eb ≠ w.heap.size := by
    rintro rfl
    obtain ⟨cs, ht⟩ := hA.typ
    have hq5 : _ = _ := hB5
    rw [hq5] at ht
    injection ht with ht
    injection ht with _ ht
    exact absurd ht (by decide)
  have HB5 := Lib.hid hB5
  have HA := Lib.hid hA
  have HF5 := Lib.hid hF5
  clear hA hM5 hB5 hN5 hF5
  go_wp2
  go_region
  all_goals
    go_wp2
    obtain ⟨d0, d1, d2, d3⟩ := (Bx.set4 (x0 := .string ⟨#[]⟩) (x1 := .string ⟨#[]⟩) (x2 := .slice none 0 0) (x3 := .int .i64 0) HB5.out).cells4
    refine bodyPost_ret (v := .tuple #[.agg #[.string ⟨#[]⟩, .string ⟨#[]⟩, .slice none 0 0, .int .i64 0], .iface 190 (.pointer (some ⟨eb, 0, none⟩))]) (by simp [results, Tryz.results41, go_sem, d0, d1, d2, d3]) rfl ⟨eb, rfl, ?_, ?_⟩
    · exact (HA.out.far4 heb).below (Below.refl _ _).drew
    · exact (below_set4 HF5.out (Nat.le_refl _)).drew
set_option maxHeartbeats 2000000 in
theorem preadf_tail {s : ByteArray} {l : Nat} {ts : List Tok} {o : Option Fo} {us : List Tok} (hf : formS (dq l) (.good ts) = (o, .good us)) (h0 : (hd us).kind ≠ 0) (w : World) (hG : GlobS w) (hs : s.size ≤ 65536) (h64 : l + 1 ≤ 64) (htk : toks s.data.toList = .ok ts) : Calls Tryz.prog 41 #[.string s, .int .i64 ((l + 1 : Nat) : Int), .func (.func 42) #[] #[]] w (PFQ (.er 20 (hd us).pos) w) := by
  have g1 : decide ((l : Int) + 1 < 1) = false := by simp; omega
  have g2 : decide ((64 : Int) < (l : Int) + 1) = false := by simp; omega
  have g3 : (l : Int) + 1 - 1 = (l : Int) := by omega
  have HG := Lib.hid hG
  have HS := Lib.hid hs
  have HLO := Lib.hid (glob_lo hG)
  have HT := Lib.hid htk
  have HF0 := Lib.hid (form_any l)
  have hl64 : l ≤ 64 := by omega
  have HFF := Lib.hid hf
  have H0 := Lib.hid h0
  clear hf h0
  clear hG hs h64 htk
  go_enter Tryz.func41, Tryz.ntmps41
  go_wp2_with fail
  refine calls_gen (P := fun W => Bx W w.heap.size 27 zc4 ∧ Bx W (w.heap.size + 1) 27 zc4 ∧ Below w.heap.size w W) ⟨(Bx.new w 27 zc4).alloc _, Bx.newAt (by simp) 27 zc4, ((Below.refl _ _).alloc (Nat.le_refl _) _).alloc (by simp) _⟩ ?_
  rintro W ⟨hB, hN, hF⟩
  refine (new_tr W (HG.out.below hF) HS.out HT.out).mono ?_
  rintro e w1 ⟨rb, rfl, hrb, hTR, hb⟩
  have hz := hF.size
  have hq := hB.lt
  have hq1 := hN.lt
  have hz1 := hb.size
  have HB1 := Lib.hid (hB.below hb)
  have HN1 := Lib.hid (hN.below hb)
  have HTR := Lib.hid hTR
  have HF1 := Lib.hid (hF.trans (hb.mono hF.size))
  clear hB hN hF hb hTR
  go_wp2_with fail
  refine calls_gen (P := fun W2 => PRd W2 w1.heap.size rb w.heap.size l (.good ts) ∧ Bx W2 w.heap.size 27 zc4 ∧ Bx W2 (w.heap.size + 1) 27 zc4 ∧ Below w.heap.size w W2) ⟨⟨⟨.nilIface, Bx.new w1 102 [.pointer (some ⟨rb, 0, none⟩), .int .i64 (l : Int), .nilIface], rfl⟩, HTR.out.below ((Below.refl _ _).alloc (Nat.le_refl _) _), (HG.out.below HF1.out).below ((Below.refl _ _).alloc (Nat.le_refl _) _), hl64, HLO.out, ⟨by omega, by omega⟩, by simp; have := HTR.out.ltr; omega⟩, HB1.out.alloc _, HN1.out.alloc _, HF1.out.alloc (by omega) _⟩ ?_
  rintro W2 ⟨hM, hB, hN, hF⟩
  refine (HF0.out _ rb w.heap.size _ W2 hM).mono ?_
  rintro e w3 ⟨v3, rfl, hO3, hM3, hF3⟩
  have hz3 := hF3.size
  have hz2 := hN.lt
  have hbl : Below (w.heap.size + 2) W2 w3 := fx_low hF3 (by omega) (fun k hk => by rcases hk with rfl | rfl <;> omega)
  have HB3 := Lib.hid (hB.low hbl (by omega))
  have HN3 := Lib.hid (hN.low hbl (by omega))
  have HM3 := Lib.hid hM3
  have HO3 := Lib.hid hO3
  have HF3 := Lib.hid (hF.trans (hbl.mono (by omega)))
  clear hM hB hN hF hO3 hM3 hF3 hbl
  go_wp2_with fail
  refine calls_gen (P := fun W3 => PRd W3 w1.heap.size rb w.heap.size l (formS (dq l) (.good ts)).2 ∧ Bx W3 w.heap.size 27 zc4 ∧ Bx W3 (w.heap.size + 1) 27 zc4 ∧ Bx W3 w3.heap.size 27 v3.c ∧ FO W3 (W2.heap.size + 1) w3.heap.size (formS (dq l) (.good ts)).1 v3 ∧ Below w.heap.size w W3) ⟨HM3.out.alloc _, HB3.out.alloc _, HN3.out.alloc _, Bx.new w3 27 v3.c, HO3.out.alloc _, HF3.out.alloc (by omega) _⟩ ?_
  rintro W3 ⟨hM, hB, hN, hE, hO, hF⟩
  refine (pisend_any W3 hM).mono ?_
  rintro e w4 ⟨rfl, hb4⟩
  rw [HFF.out] at hM hO
  rw [show decide ((formS (dq l) (.good ts)).2.hd.kind = 0) = false by rw [HFF.out]; exact decide_eq_false H0.out]
  have hB4 := hB.below hb4
  have hN4 := hN.below hb4
  have hM4 := hM.below hb4
  have hF4 := hF.trans (hb4.mono hF.size)
  clear hM hB hN hE hO hF hb4
  have HB4 := Lib.hid hB4
  have HN4 := Lib.hid hN4
  have HM4 := Lib.hid hM4
  have HF4 := Lib.hid hF4
  have hl0 := hB4.lt
  have hl00 := hN4.lt
  clear hB4 hN4 hM4 hF4
  go_wp2_with fail
  refine (prefuse_any w4 HM4.out).mono ?_
  rintro e w5 ⟨rfl, hM5, hX5⟩
  have hbl : Below (w.heap.size + 2) w4 w5 := fx_low hX5 (by omega) (fun k hk => by rcases hk with rfl | rfl <;> omega)
  have hB5 := HB4.out.low hbl (by omega)
  have hN5 := HN4.out.low hbl (by omega)
  have hF5 := HF4.out.trans (hbl.mono (by omega))
  clear hX5 hbl
  obtain ⟨vv, c0, c1, c2, z0, z2, eb, rfl, hA⟩ := hM5.cells
  have hx5 := hM5.ltx
  obtain ⟨b0, b1, b2, b3⟩ := Bx.cells4 hB5
  obtain ⟨y0, y1, y2, y3⟩ := Bx.frozen4 hB5
  obtain ⟨n0, n1, n2, n3⟩ := Bx.cells4 hN5
  have hl1 := hB5.lt
  have hl2 := hN5.lt
  have heb : eb ≠ w.heap.size := by
    rintro rfl
    obtain ⟨cs, ht⟩ := hA.typ
    have hq5 : _ = _ := hB5
    rw [hq5] at ht
    injection ht with ht
    injection ht with _ ht
    exact absurd ht (by decide)
  have HB5 := Lib.hid hB5
  have HA := Lib.hid hA
  have HF5 := Lib.hid hF5
  clear hA hM5 hB5 hN5 hF5
  go_wp2
  go_region
  all_goals
    go_wp2
    obtain ⟨d0, d1, d2, d3⟩ := (Bx.set4 (x0 := .string ⟨#[]⟩) (x1 := .string ⟨#[]⟩) (x2 := .slice none 0 0) (x3 := .int .i64 0) HB5.out).cells4
    refine bodyPost_ret (v := .tuple #[.agg #[.string ⟨#[]⟩, .string ⟨#[]⟩, .slice none 0 0, .int .i64 0], .iface 190 (.pointer (some ⟨eb, 0, none⟩))]) (by simp [results, Tryz.results41, go_sem, d0, d1, d2, d3]) rfl ⟨eb, rfl, ?_, ?_⟩
    · exact (HA.out.far4 heb).below (Below.refl _ _).drew
    · exact (below_set4 HF5.out (Nat.le_refl _)).drew
theorem preadf_any {s : ByteArray} {D : Nat} (w : World) (hG : GlobS w) (hs : s.size ≤ 65536) (h1 : 1 ≤ D) (h64 : D ≤ 64) : Calls Tryz.prog 41 #[.string s, .int .i64 (D : Int), .func (.func 42) #[] #[]] w (PFQ (parseF D s.data.toList) w) := by
  obtain ⟨l, rfl⟩ : ∃ l, D = l + 1 := ⟨D - 1, by omega⟩
  cases htk : toks s.data.toList with
  | error x =>
    obtain ⟨c, p⟩ := x
    rw [show parseF (l + 1) s.data.toList = .er c p by rw [parseF, htk]]
    exact preadf_er w hG hs h64 htk
  | ok ts =>
    have e : parseF (l + 1) s.data.toList = endF (formS (dq l) (.good ts)) := by rw [parseF, htk]; show endF ((dq (l + 1)).f (.good ts)) = _; rw [show (dq (l + 1)).f = formS (dq l) by rw [dq]]
    rw [e]
    cases hr : formS (dq l) (.good ts) with
    | mk o st =>
      cases st with
      | bad c p => exact preadf_bad hr w hG hs h64 htk
      | good us =>
        by_cases h0 : (hd us).kind = 0
        · obtain ⟨f, hf⟩ := (rok_all (rok_dq l)).f.some_ (.good ts) us (by rw [hr])
          rw [hr] at hf
          obtain rfl : o = some f := hf
          rw [show endF (some f, St.good us) = .ok f by simp [endF, h0]]
          exact preadf_ok hr h0 w hG hs h64 htk
        · rw [show endF (o, St.good us) = .er 20 (hd us).pos by simp [endF, h0]]
          exact preadf_tail hr h0 w hG hs h64 htk
theorem PFQ.form {res : FP} {w w' : World} {e : Ending} (h : PFQ res w e w') : ∃ (v : FV) (err : Value), e = .returned (.tuple #[.agg #[.string v.o, .string v.nm, .slice v.A v.ll v.cap, .int .i64 v.p], err]) := by
  cases res with
  | ok f => obtain ⟨v, h1, _⟩ := h; exact ⟨v, _, h1⟩
  | er c p => obtain ⟨b, h1, _⟩ := h; exact ⟨fv0, _, h1⟩
set_option maxHeartbeats 1000000 in
theorem pparse_any {s : ByteArray} {D : Nat} (w : World) (hG : GlobS w) (hs : s.size ≤ 65536) (h1 : 1 ≤ D) (h64 : D ≤ 64) : Calls Tryz.prog 12 #[.string s, .int .i64 (D : Int)] w (PFQ (parseF D s.data.toList) w) := by
  have HH := Lib.hid (fun (W : World) (hW : Below w.heap.size w W) => preadf_any W (hG.below hW) hs h1 h64)
  obtain ⟨res, hres⟩ : ∃ res, res = parseF D s.data.toList := ⟨_, rfl⟩
  rw [← hres] at HH ⊢
  clear hG hs h1 h64 hres
  go_enter Tryz.func12, Tryz.ntmps12
  go_wp2_with fail
  refine calls_gen (P := fun W => Bx W w.heap.size 27 zc4 ∧ Below w.heap.size w W) ⟨Bx.new w 27 zc4, (Below.refl _ _).alloc (Nat.le_refl _) _⟩ ?_
  rintro W ⟨hB, hF⟩
  refine (HH.out W hF).mono ?_
  intro e w1 hp
  have hz := hB.lt
  have hz1 := hF.size
  cases res with
  | ok f =>
    obtain ⟨v, rfl, hO, hb⟩ := hp
    have hB1 := hB.below hb
    obtain ⟨b0, b1, b2, b3⟩ := Bx.cells4 hB1
    obtain ⟨y0, y1, y2, y3⟩ := Bx.frozen4 hB1
    have hl1 := hB1.lt
    have HB1 := Lib.hid hB1
    have HO := Lib.hid hO
    have HF := Lib.hid (hF.trans (hb.mono hF.size))
    clear hB hF hb hO hB1
    go_wp2
    obtain ⟨d0, d1, d2, d3⟩ := (Bx.set4 (x0 := .string v.o) (x1 := .string v.nm) (x2 := .slice v.A v.ll v.cap) (x3 := .int .i64 v.p) HB1.out).cells4
    refine bodyPost_ret (v := .tuple #[.agg #[.string v.o, .string v.nm, .slice v.A v.ll v.cap, .int .i64 v.p], .nilIface]) (by simp [results, Tryz.results12, go_sem, d0, d1, d2, d3]) rfl ⟨v, rfl, ?_, ?_⟩
    · exact (HO.out.set4 (.inl (by omega))).mono (by omega) (by simp)
    · exact below_set4 HF.out (Nat.le_refl _)
  | er c p =>
    obtain ⟨b, rfl, hA, hb⟩ := hp
    have hB1 := hB.below hb
    obtain ⟨b0, b1, b2, b3⟩ := Bx.cells4 hB1
    obtain ⟨y0, y1, y2, y3⟩ := Bx.frozen4 hB1
    have hl1 := hB1.lt
    have heb : b ≠ w.heap.size := by
      rintro rfl
      obtain ⟨cs, ht⟩ := hA.typ
      have hq5 : _ = _ := hB1
      rw [hq5] at ht
      injection ht with ht
      injection ht with _ ht
      exact absurd ht (by decide)
    have HB1 := Lib.hid hB1
    have HA := Lib.hid hA
    have HF := Lib.hid (hF.trans (hb.mono hF.size))
    clear hB hF hb hA hB1
    go_wp2
    obtain ⟨d0, d1, d2, d3⟩ := (Bx.set4 (x0 := .string ⟨#[]⟩) (x1 := .string ⟨#[]⟩) (x2 := .slice none 0 0) (x3 := .int .i64 0) HB1.out).cells4
    refine bodyPost_ret (v := .tuple #[.agg #[.string ⟨#[]⟩, .string ⟨#[]⟩, .slice none 0 0, .int .i64 0], .iface 190 (.pointer (some ⟨b, 0, none⟩))]) (by simp [results, Tryz.results12, go_sem, d0, d1, d2, d3]) rfl ⟨b, rfl, ?_, ?_⟩
    · exact HA.out.far4 heb
    · exact below_set4 HF.out (Nat.le_refl _)
end
end Go.Proofs.YtmgjpjjglghbaaaGreatDoor
