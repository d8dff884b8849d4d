/-
  Expressions of a reader of models, walked. Meanings, definitions, labels and bounds of a reader of models, walked. Definitions, labels, bounds and settings of a reader of models, walked. Settings and weights of a reader of models, walked.
-/
import Derived.Test.YtodijgndbjfbgaaGreatDoorGA
namespace Go.Proofs.YtodijgndbjfbgaaGreatDoor
section
open Go.RowKit

theorem x2_lt {xb rb k n : Nat} (h : X2 xb rb k) (h1 : xb < n) (h2 : rb < n) : k < n := by rcases h with rfl | rfl <;> assumption
theorem Box.fxb {X : Nat → Prop} {w w' : World} {q : Nat} {c0 c1 c2 c3 c4 : Value} (h : Box w q c0 c1 c2 c3 c4) (hf : Fx X w w') (hx : ¬ X q) : Box w' q c0 c1 c2 c3 c4 := (hf.block q h.lt hx).trans h
theorem Fx.set5 {X : Nat → Prop} {a w : World} {q : Nat} (h : Fx X a w) (hq : a.heap.size ≤ q) (x0 x1 x2 x3 x4 : Value) : Fx X a (((((w.setCell ⟨q, 0, none⟩ x0).setCell ⟨q, 1, none⟩ x1).setCell ⟨q, 2, none⟩ x2).setCell ⟨q, 3, none⟩ x3).setCell ⟨q, 4, none⟩ x4) :=
  Fx.setL (us := [x0, x1, x2, x3, x4]) (i := 0) (.inl hq) h
theorem XO.set5 {w : World} {b q : Nat} {o : Option Ex} {c : List Value} (h : XO w b o c) (hq : q < b) (x0 x1 x2 x3 x4 : Value) : XO (((((w.setCell ⟨q, 0, none⟩ x0).setCell ⟨q, 1, none⟩ x1).setCell ⟨q, 2, none⟩ x2).setCell ⟨q, 3, none⟩ x3).setCell ⟨q, 4, none⟩ x4) b o c :=
  XO.setL (us := [x0, x1, x2, x3, x4]) (i := 0) h hq
theorem MRd.set5 {w : World} {xb rb b D q : Nat} {st : St} {c0 c1 c2 c3 c4 : Value} (h : MRd w xb rb b D st) (hb : Box w q c0 c1 c2 c3 c4) (hq : b ≤ q) (x0 x1 x2 x3 x4 : Value) : MRd (((((w.setCell ⟨q, 0, none⟩ x0).setCell ⟨q, 1, none⟩ x1).setCell ⟨q, 2, none⟩ x2).setCell ⟨q, 3, none⟩ x3).setCell ⟨q, 4, none⟩ x4) xb rb b D st :=
  MRd.setL (us := [x0, x1, x2, x3, x4]) (i := 0) (t := 57) (cs := [c0, c1, c2, c3, c4]) (by unfold RdT; decide) hq h hb
/-- A store to the newest block of all: nothing else is touched. -/
theorem XO.top5 {w : World} {b q : Nat} {o : Option Ex} {c : List Value} (h : XO w b o c) (hq : ∀ (k : Nat) (cs : Array Value), b ≤ k → w.heap[k]? = some (.cells cs 57 (0, 0)) → k ≠ q) (x0 x1 x2 x3 x4 : Value) : XO (((((w.setCell ⟨q, 0, none⟩ x0).setCell ⟨q, 1, none⟩ x1).setCell ⟨q, 2, none⟩ x2).setCell ⟨q, 3, none⟩ x3).setCell ⟨q, 4, none⟩ x4) b o c := by
  cases o with
  | none => exact h
  | some x => exact HS.keepY (fun k cs hb hc => setL_heap (hq k cs hb hc) [x0, x1, x2, x3, x4] w 0) (show HS w 57 (fun k => b ≤ k) x c from h)
theorem blk_typ {w : World} {k : Nat} {cs cs' : Array Value} {e e' : TypeId} (h : w.heap[k]? = some (.cells cs e (0, 0))) (h' : w.heap[k]? = some (.cells cs' e' (0, 0))) : e = e' := by
  rw [h] at h'
  injection h' with h'
  injection h' with _ h'
theorem keepS5 {w : World} {xb q : Nat} {u0 u1 : Value} (hq : xb ≠ q) (h : w.cell? ⟨xb, 0, none⟩ = some u0 ∧ w.cell? ⟨xb, 1, none⟩ = some u1) {x0 x1 x2 x3 x4 : Value} :
    (((((w.setCell ⟨q, 0, none⟩ x0).setCell ⟨q, 1, none⟩ x1).setCell ⟨q, 2, none⟩ x2).setCell ⟨q, 3, none⟩ x3).setCell ⟨q, 4, none⟩ x4).cell? ⟨xb, 0, none⟩ = some u0 ∧ (((((w.setCell ⟨q, 0, none⟩ x0).setCell ⟨q, 1, none⟩ x1).setCell ⟨q, 2, none⟩ x2).setCell ⟨q, 3, none⟩ x3).setCell ⟨q, 4, none⟩ x4).cell? ⟨xb, 1, none⟩ = some u1 :=
  ⟨(World.cell?_of_block (w := w) (a := ⟨xb, 0, none⟩) (setL_heap hq [x0, x1, x2, x3, x4] w 0)).trans h.1, (World.cell?_of_block (w := w) (a := ⟨xb, 1, none⟩) (setL_heap hq [x0, x1, x2, x3, x4] w 0)).trans h.2⟩
section
variable {xb rb b D : Nat} {st : St}
/-- What an expression's reader tells. -/
def EmP (xb rb b D : Nat) (r : Option Ex × St) (w : World) (e : Ending) (w' : World) : Prop :=
  ∃ v : XV, e = .returned (.agg #[.string v.o, .string v.nm, .int .i64 v.n, .slice v.A v.ll v.cap, .int .i64 v.p]) ∧ XO w' (w.heap.size + 1) r.1 v.c ∧ MRd w' xb rb b D r.2 ∧ Fx (X2 xb rb) w w'
/-- What Read has told ahead of fail. -/
structure Mid (xb rb b D : Nat) (r : Option Ex × St) (W w : World) (v : XV) (ev : Value) : Prop where
  x : XO w W.heap.size r.1 v.c
  fx : Fx (X2 xb rb) W w
  fl : ∀ w', Kt b (fun e => e = 57) w w' → (∀ k : Nat, k < b → w'.heap[k]? = w.heap[k]?) → w.heap.size ≤ w'.heap.size → Calls Tryz.prog 75 #[.pointer (some ⟨xb, 0, none⟩), ev] w' (MU xb rb b D r.2 w')
set_option maxHeartbeats 1000000 in
set_option maxRecDepth 100000 in
theorem mexpr_gen {r : Option Ex × St} {P : Option Addr} (w : World) (c0 : w.cell? ⟨xb, 0, none⟩ = some (.pointer P)) (c1 : w.cell? ⟨xb, 1, none⟩ = some (.int .i64 (D : Int))) (hx : xb < w.heap.size) (hrb : rb < w.heap.size) (hb : b ≤ xb)
    (HR : ∀ W, Below w.heap.size w W → Calls Tryz.prog 145 #[.pointer P, .int .i64 (D : Int)] W fun e w' => ∃ (v : XV) (ev : Value), e = .returned (.tuple #[.agg #[.string v.o, .string v.nm, .int .i64 v.n, .slice v.A v.ll v.cap, .int .i64 v.p], ev]) ∧ Mid xb rb b D r W w' v ev ∧ w'.cell? ⟨xb, 0, none⟩ = some (.pointer P) ∧ w'.cell? ⟨xb, 1, none⟩ = some (.int .i64 (D : Int))) :
    Calls Tryz.prog 124 #[.pointer (some ⟨xb, 0, none⟩)] w (EmP xb rb b D r w) := by
  have HH := Lib.hid HR
  have hnx : ∀ k, w.heap.size ≤ k → ¬ X2 xb rb k := fun k hk h => by have := x2_lt h hx hrb; omega
  have HN := Lib.hid hnx
  have HB0 := Lib.hid (show Below w.heap.size w ((w.alloc (.cells #[.string ⟨#[]⟩, .string ⟨#[]⟩, .int .i64 0, .slice none 0 0, .int .i64 0] 57)).drew) from ((Below.refl _ _).alloc (Nat.le_refl _) _).drew)
  have HB1 := Lib.hid (show Below w.heap.size w (((w.alloc (.cells #[.string ⟨#[]⟩, .string ⟨#[]⟩, .int .i64 0, .slice none 0 0, .int .i64 0] 57)).alloc (.cells #[.string ⟨#[]⟩, .string ⟨#[]⟩, .int .i64 0, .slice none 0 0, .int .i64 0] 57)).drew) from (((Below.refl _ _).alloc (Nat.le_refl _) _).alloc (by simp) _).drew)
  have HX1 := Lib.hid (fun (wA : World) (hf : Fx (X2 xb rb) (((w.alloc (.cells #[.string ⟨#[]⟩, .string ⟨#[]⟩, .int .i64 0, .slice none 0 0, .int .i64 0] 57)).alloc (.cells #[.string ⟨#[]⟩, .string ⟨#[]⟩, .int .i64 0, .slice none 0 0, .int .i64 0] 57)).drew) wA) => show Box wA (w.heap.size + 1) (.string ⟨#[]⟩) (.string ⟨#[]⟩) (.int .i64 0) (.slice none 0 0) (.int .i64 0) from Box.fxb (w := ((w.alloc (.cells #[.string ⟨#[]⟩, .string ⟨#[]⟩, .int .i64 0, .slice none 0 0, .int .i64 0] 57)).alloc (.cells #[.string ⟨#[]⟩, .string ⟨#[]⟩, .int .i64 0, .slice none 0 0, .int .i64 0] 57)).drew) (heap_new_at (by simp) _) hf (hnx _ (by omega)))
  have HX0 := Lib.hid (fun (wA : World) (hf : Fx (X2 xb rb) (((w.alloc (.cells #[.string ⟨#[]⟩, .string ⟨#[]⟩, .int .i64 0, .slice none 0 0, .int .i64 0] 57)).alloc (.cells #[.string ⟨#[]⟩, .string ⟨#[]⟩, .int .i64 0, .slice none 0 0, .int .i64 0] 57)).drew) wA) => show Box wA w.heap.size (.string ⟨#[]⟩) (.string ⟨#[]⟩) (.int .i64 0) (.slice none 0 0) (.int .i64 0) from Box.fxb (w := ((w.alloc (.cells #[.string ⟨#[]⟩, .string ⟨#[]⟩, .int .i64 0, .slice none 0 0, .int .i64 0] 57)).alloc (.cells #[.string ⟨#[]⟩, .string ⟨#[]⟩, .int .i64 0, .slice none 0 0, .int .i64 0] 57)).drew) ((Box.new w _ _ _ _ _).alloc _) hf (hnx _ (by omega)))
  have HY0 := Lib.hid (fun (wA : World) (hf : Fx (X2 xb rb) ((w.alloc (.cells #[.string ⟨#[]⟩, .string ⟨#[]⟩, .int .i64 0, .slice none 0 0, .int .i64 0] 57)).drew) wA) => show Box wA w.heap.size (.string ⟨#[]⟩) (.string ⟨#[]⟩) (.int .i64 0) (.slice none 0 0) (.int .i64 0) from Box.fxb (w := (w.alloc (.cells #[.string ⟨#[]⟩, .string ⟨#[]⟩, .int .i64 0, .slice none 0 0, .int .i64 0] 57)).drew) (Box.new w _ _ _ _ _) hf (hnx _ (by omega)))
  clear HR hnx
  go_enter Tryz.func124, Tryz.ntmps124
  have n0 := World.new_ne w ⟨xb, 0, none⟩ c0
  have n1 := World.new_ne w ⟨xb, 1, none⟩ c1
  go_wp2_with fail
  go_region_held3 (fun w' => w'.cell? ⟨xb, 0, none⟩ = some (.pointer P) ∧ w'.cell? ⟨xb, 1, none⟩ = some (.int .i64 (D : Int))) (first | with_reducible exact lk | go_keep | (refine keepS5 ?_ lk; omega)) (first
    | (go_at_call 145; (with_reducible refine (HH.out _ HB1.out).mono ?_); rintro e wA ⟨v, ev, rfl, hm, lk⟩; have hq := HX1.out _ hm.fx; have hqb := hq.cells; have hqz := hq.frozen; have hql := hq.lt; obtain ⟨b0, b1, b2, b3, b4⟩ := hqb; obtain ⟨z0, z1, z2, z3, z4⟩ := hqz; have hway := Lib.hid hq; clear hq)
    | (go_at_call 145; (with_reducible refine (HH.out _ HB0.out).mono ?_); rintro e wA ⟨v, ev, rfl, hm, lk⟩; have hway := Lib.hid True.intro))
  · go_wp2_with fail
    refine calls_gen (P := fun W2 => Calls Tryz.prog 75 #[.pointer (some ⟨xb, 0, none⟩), ev] W2 (MU xb rb b D r.2 W2) ∧ Box W2 wA.heap.size (.string v.o) (.string v.nm) (.int .i64 v.n) (.slice v.A v.ll v.cap) (.int .i64 v.p) ∧ Box W2 w.heap.size (.string ⟨#[]⟩) (.string ⟨#[]⟩) (.int .i64 0) (.slice none 0 0) (.int .i64 0) ∧ XO W2 (w.heap.size + 1) r.1 v.c ∧ Fx (X2 xb rb) w W2 ∧ w.heap.size < wA.heap.size) ⟨hm.fl _ (Kt.below ((Below.refl _ _).alloc (Nat.le_refl _) _)) (fun k hk => ((Below.refl wA.heap.size wA).alloc (Nat.le_refl _) _).block k (by have := hm.fx.size; simp at this; omega)) (by simp), Box.new wA _ _ _ _ _, (HY0.out wA hm.fx).alloc _, (hm.x.mono (by simp)).alloc _, ((Fx.of HB0.out).trans hm.fx).alloc _, by have := hm.fx.size; simp at this; omega⟩ ?_
    rintro W2 ⟨hfl, hB3, hB0, hXO, hF, hq3⟩
    refine hfl.mono ?_
    rintro e w4 ⟨rfl, hM, hF4⟩
    have hB3' := hB3.fxb hF4 (HN.out _ (by omega))
    have hB0' := hB0.fxb hF4 (HN.out _ (by omega))
    have HXO := Lib.hid (hXO.fx hF4 (fun k hk => by have := x2_lt hk hx hrb; omega))
    have HF := Lib.hid (hF.trans hF4)
    have HM := Lib.hid hM
    obtain ⟨d0, d1, d2, d3, d4⟩ := hB3'.cells
    obtain ⟨y0, y1, y2, y3, y4⟩ := hB0'.frozen
    obtain ⟨a0, a1, a2, a3, a4⟩ := hB0'.cells
    have hl4 := hB0'.lt
    have hl5 := hB3'.lt
    have HB0' := Lib.hid hB0'
    clear hfl hB3 hB0 hXO hF hM hF4 hB3' hB0' hway
    go_wp2
    obtain ⟨m0, m1, m2, m3, m4⟩ := (HB0'.out.set5 (.string v.o) (.string v.nm) (.int .i64 v.n) (.slice v.A v.ll v.cap) (.int .i64 v.p)).cells
    refine bodyPost_ret (v := .agg #[.string v.o, .string v.nm, .int .i64 v.n, .slice v.A v.ll v.cap, .int .i64 v.p]) (by simp [results, Tryz.results124, go_sem, m0, m1, m2, m3, m4]) rfl ⟨v, rfl, ?_, ?_, ?_⟩
    · exact HXO.out.set5 (by omega) _ _ _ _ _
    · exact HM.out.set5 HB0'.out (by omega) _ _ _ _ _
    · exact HF.out.set5 (Nat.le_refl _) _ _ _ _ _
  · go_wp2_with fail
    refine calls_gen (P := fun W2 => Calls Tryz.prog 75 #[.pointer (some ⟨xb, 0, none⟩), ev] W2 (MU xb rb b D r.2 W2) ∧ Box W2 (w.heap.size + 1) (.string v.o) (.string v.nm) (.int .i64 v.n) (.slice v.A v.ll v.cap) (.int .i64 v.p) ∧ Box W2 w.heap.size (.string ⟨#[]⟩) (.string ⟨#[]⟩) (.int .i64 0) (.slice none 0 0) (.int .i64 0) ∧ XO W2 (w.heap.size + 1) r.1 v.c ∧ Fx (X2 xb rb) w W2 ∧ w.heap.size < (w.heap.size + 1)) ⟨hm.fl _ (fun k cs e hk h1 h2 => setL_heap (by rintro rfl; exact h2 (blk_typ h1 hway.out)) [_, _, _, _, _] wA 0) (fun k hk => setL_heap (by omega) [_, _, _, _, _] wA 0) (by simp), hway.out.set5 _ _ _ _ _, (HX0.out wA hm.fx).far5 (by omega) _ _ _ _ _, (hm.x.set5 (by simp) _ _ _ _ _).mono (by simp), ((Fx.of HB1.out).trans hm.fx).set5 (by omega) _ _ _ _ _, by omega⟩ ?_
    rintro W2 ⟨hfl, hB3, hB0, hXO, hF, hq3⟩
    refine hfl.mono ?_
    rintro e w4 ⟨rfl, hM, hF4⟩
    have hB3' := hB3.fxb hF4 (HN.out _ (by omega))
    have hB0' := hB0.fxb hF4 (HN.out _ (by omega))
    have HXO := Lib.hid (hXO.fx hF4 (fun k hk => by have := x2_lt hk hx hrb; omega))
    have HF := Lib.hid (hF.trans hF4)
    have HM := Lib.hid hM
    obtain ⟨d0, d1, d2, d3, d4⟩ := hB3'.cells
    obtain ⟨y0, y1, y2, y3, y4⟩ := hB0'.frozen
    obtain ⟨a0, a1, a2, a3, a4⟩ := hB0'.cells
    have hl4 := hB0'.lt
    have hl5 := hB3'.lt
    have HB0' := Lib.hid hB0'
    clear hfl hB3 hB0 hXO hF hM hF4 hB3' hB0' hway
    go_wp2
    obtain ⟨m0, m1, m2, m3, m4⟩ := (HB0'.out.set5 (.string v.o) (.string v.nm) (.int .i64 v.n) (.slice v.A v.ll v.cap) (.int .i64 v.p)).cells
    refine bodyPost_ret (v := .agg #[.string v.o, .string v.nm, .int .i64 v.n, .slice v.A v.ll v.cap, .int .i64 v.p]) (by simp [results, Tryz.results124, go_sem, m0, m1, m2, m3, m4]) rfl ⟨v, rfl, ?_, ?_, ?_⟩
    · exact HXO.out.set5 (by omega) _ _ _ _ _
    · exact HM.out.set5 HB0'.out (by omega) _ _ _ _ _
    · exact HF.out.set5 (Nat.le_refl _) _ _ _ _ _
/-- Only blocks of expressions have been touched. -/
structure Kk (b : Nat) (w w' : World) : Prop where
  kt : Kt b (fun e => e = 57) w w'
  lo : ∀ k : Nat, k < b → w'.heap[k]? = w.heap[k]?
  sz : w.heap.size ≤ w'.heap.size
theorem Kk.all {w w' : World} (h : Kk b w w') {k : Nat} {cs : Array Value} {e : TypeId} (hk : w.heap[k]? = some (.cells cs e (0, 0))) (he : e ≠ 57) : w'.heap[k]? = w.heap[k]? := by
  rcases Nat.lt_or_ge k b with hlt | hge
  · exact h.lo k hlt
  · exact h.kt k cs e hge hk he
theorem rdt_ne {e : TypeId} (h : RdT e) : e ≠ 57 := by rcases h with rfl | rfl | rfl | rfl <;> decide
theorem MRd.kk {w w' : World} (h : MRd w xb rb b D st) (hk : Kk b w w') : MRd w' xb rb b D st := h.keep (fun _ _ _ h1 h2 => hk.all h1 (rdt_ne h2)) hk.lo hk.sz
theorem MR0.kk {w w' : World} (h : MR0 w xb rb b D) (hk : Kk b w w') : MR0 w' xb rb b D :=
  ⟨(hk.all h.blk (by decide)).trans h.blk, glob_keep h.glob (hk.lo 0 h.lo.2) (hk.lo 3 h.lo.1), h.d1, h.d64, h.lo, h.hx, Nat.lt_of_lt_of_le h.hr hk.sz⟩
theorem AtE.kk {w w' : World} {eb : Nat} {p c : Int} (h : AtE w eb p c) (hk : Kk b w w') : AtE w' eb p c := by
  obtain ⟨cs, h1⟩ := h.typ
  exact h.keep (hk.all h1 (by decide))
theorem MRd.fr {us : List Tok} {w w' : World} (h : MRd w xb rb b D (.good us)) (hF : Fr w.heap.size rb w w') : MR0 w' xb rb b D ∧ w'.cell? ⟨xb, 0, none⟩ = some (.pointer (some ⟨rb, 0, none⟩)) ∧ w'.cell? ⟨xb, 1, none⟩ = some (.int .i64 (D : Int)) := by
  have hT : TR w rb us := h.tr
  have h0 := h.mr0
  have hne : xb ≠ rb := by
    rintro rfl
    obtain ⟨ts', k', _, g, cap, q1, _⟩ := hT.rd
    rw [show w.heap[xb]? = _ from h0.blk] at q1
    injection q1 with q1
    injection q1 with _ q1
    exact absurd q1 (by decide)
  have hb : Bx w' xb 67 _ := (hF.block xb h.ltx hne).trans h0.blk
  have hG : GlobS w' := glob_keep h.glob (hF.block 0 (by have := h.lo; have := h.hx; have := h.ltx; omega) (by have := h.lo; have := h.hx; omega)) (hF.block 3 (by have := h.lo; have := h.hx; have := h.ltx; omega) (by have := h.lo; have := h.hx; omega))
  exact ⟨⟨hb, hG, h.d1, h.d64, h.lo, h.hx, Nat.lt_of_lt_of_le h.hr hF.size⟩, hb.cell 0, hb.cell 1⟩
theorem MR0.good {r : List Tok} {w : World} (h : MR0 w xb rb b D) (hT : TR w rb r) : MRd w xb rb b D (.good r) := ⟨⟨_, h.blk, rfl⟩, hT, h.glob, h.d1, h.d64, h.lo, h.hx, h.hr⟩
theorem mexpr_any (w : World) (h : MRd w xb rb b D st) : Calls Tryz.prog 124 #[.pointer (some ⟨xb, 0, none⟩)] w (EmP xb rb b D (st.expr D) w) := by
  obtain ⟨v, c0, c1, _⟩ := h.cells
  refine mexpr_gen w c0 c1 h.ltx h.hr h.hx.1 ?_
  intro W hW
  have hM := h.below hW
  cases st with
  | bad c p =>
    obtain ⟨v', c0', c1', _⟩ := hM.cells
    refine (read_nil (D : Int) W ⟨by have := h.d1; omega, by have := h.d64; omega⟩).mono ?_
    rintro e w' ⟨rfl, hb⟩
    exact ⟨xv0, _, rfl, ⟨rfl, Fx.of hb, fun w'' h1 h2 h3 => mfail_bad w'' ((hM.below hb).kk ⟨h1, h2, h3⟩) _ _⟩, (hM.below hb).cells.choose_spec.1, (hM.below hb).cells.choose_spec.2.1⟩
  | good us =>
    refine (read_any W hM.tr h.d1 h.d64).mono ?_
    intro e w' hp
    have he : (St.good us).expr D = exprP ((dp D).c us) := rfl
    rw [he]
    cases hres : (dp D).c us with
    | ok x r =>
      rw [hres] at hp
      obtain ⟨o, nm, n, A, l, cap, p, rfl, hC, hT, hF⟩ := hp
      obtain ⟨h0, q0, q1⟩ := hM.fr hF
      exact ⟨⟨o, nm, n, A, l, cap, p⟩, _, rfl, ⟨HS.wide (fun k _ hk => hk.1) hC, Fx.ofFr hF, fun w'' h1 h2 h3 => mfail_nil w'' ((h0.good hT).kk ⟨h1, h2, h3⟩)⟩, q0, q1⟩
    | er c q =>
      rw [hres] at hp
      obtain ⟨eb, rfl, _, hA, hF⟩ := hp
      obtain ⟨h0, q0, q1⟩ := hM.fr hF
      exact ⟨xv0, _, rfl, ⟨rfl, Fx.ofFr hF, fun w'' h1 h2 h3 => mfail_good w'' (h0.kk ⟨h1, h2, h3⟩) (hA.kk ⟨h1, h2, h3⟩)⟩, q0, q1⟩
end
end
section
open Go.RowKit

section
variable {xb rb b D : Nat} {st : St}
theorem MRd.nx {w : World} (h : MRd w xb rb b D st) : ∀ k, w.heap.size ≤ k → ¬ X2 xb rb k := fun k hk hx => by have := x2_lt hx h.ltx h.hr; omega
theorem MRd.ble {w : World} (h : MRd w xb rb b D st) : b ≤ w.heap.size := by have := h.ltx; have := h.hx; omega
set_option maxHeartbeats 1000000 in
theorem mmean_any (w : World) (h : MRd w xb rb b D st) : Calls Tryz.prog 105 #[.pointer (some ⟨xb, 0, none⟩)] w (EmP xb rb b D (st.mean D) w) := by
  have hx := h.ltx
  have hrb := h.hr
  have HN := Lib.hid h.nx
  have hbl := h.ble
  have H := Lib.hid h
  clear h
  go_enter Tryz.func105, Tryz.ntmps105
  go_wp2_with fail
  refine calls_gen (P := fun W => MRd W xb rb b D st ∧ Box W w.heap.size (.string ⟨#[]⟩) (.string ⟨#[]⟩) (.int .i64 0) (.slice none 0 0) (.int .i64 0) ∧ Fx (X2 xb rb) w W) ⟨H.out.alloc _, Box.new _ _ _ _ _ _, (Fx.refl _ _).alloc _⟩ ?_
  rintro W ⟨hM, hB, hF⟩
  refine (mwant_any W hM _).mono ?_
  rintro e w1 ⟨rfl, hM1, hF1⟩
  have HM1 := Lib.hid (show MRd w1 xb rb b D (st.want [61]) from hM1)
  have HB1 := Lib.hid (hB.fxb hF1 (HN.out _ (Nat.le_refl _)))
  have HF1 := Lib.hid (hF.trans hF1)
  clear hM hB hF hM1 hF1 H
  go_wp2_with fail
  refine (mexpr_any w1 HM1.out).mono ?_
  rintro e w2 ⟨v, rfl, hX, hM2, hF2⟩
  have HM2 := Lib.hid hM2
  have HX2 := Lib.hid (hX.mono (by have := HF1.out.size; omega : w.heap.size + 1 ≤ w1.heap.size + 1))
  have HB2 := Lib.hid (HB1.out.fxb hF2 (HN.out _ (Nat.le_refl _)))
  have HF2 := Lib.hid (HF1.out.trans hF2)
  clear hX hM2 hF2 HM1 HB1 HF1
  go_wp2_with fail
  refine calls_gen (P := fun W => MRd W xb rb b D ((st.want [61]).expr D).2 ∧ Box W w.heap.size (.string ⟨#[]⟩) (.string ⟨#[]⟩) (.int .i64 0) (.slice none 0 0) (.int .i64 0) ∧ Box W w2.heap.size (.string v.o) (.string v.nm) (.int .i64 v.n) (.slice v.A v.ll v.cap) (.int .i64 v.p) ∧ XO W (w.heap.size + 1) ((st.want [61]).expr D).1 v.c ∧ Fx (X2 xb rb) w W) ⟨HM2.out.alloc _, HB2.out.alloc _, Box.new _ _ _ _ _ _, HX2.out.alloc _, HF2.out.alloc _⟩ ?_
  have hs2 := HF2.out.size
  rintro W ⟨hM, hB, hC, hX, hF⟩
  refine (mwant_any W hM _).mono ?_
  rintro e w3 ⟨rfl, hM3, hF3⟩
  have hB3 := hB.fxb hF3 (HN.out _ (Nat.le_refl _))
  have hC3 := hC.fxb hF3 (HN.out _ (by omega))
  have HX3 := Lib.hid (hX.fx hF3 (fun k hk => by have := x2_lt hk hx hrb; omega))
  have HM3 := Lib.hid (show MRd w3 xb rb b D (((st.want [61]).expr D).2.want [59]) from hM3)
  have HF3 := Lib.hid (hF.trans hF3)
  obtain ⟨d0, d1, d2, d3, d4⟩ := hC3.cells
  obtain ⟨a0, a1, a2, a3, a4⟩ := hB3.cells
  obtain ⟨y0, y1, y2, y3, y4⟩ := hB3.frozen
  have hl1 := hB3.lt
  have hl2 := hC3.lt
  have HB3 := Lib.hid hB3
  clear hM hB hC hX hF hM3 hF3 hB3 hC3 HM2 HB2 HX2 HF2
  go_wp2
  obtain ⟨m0, m1, m2, m3, m4⟩ := (HB3.out.set5 (.string v.o) (.string v.nm) (.int .i64 v.n) (.slice v.A v.ll v.cap) (.int .i64 v.p)).cells
  refine bodyPost_ret (v := .agg #[.string v.o, .string v.nm, .int .i64 v.n, .slice v.A v.ll v.cap, .int .i64 v.p]) (by simp [results, Tryz.results105, go_sem, m0, m1, m2, m3, m4]) rfl ⟨v, rfl, ?_, ?_, ?_⟩
  · exact HX3.out.set5 (by omega) _ _ _ _ _
  · exact HM3.out.set5 HB3.out (by omega) _ _ _ _ _
  · exact HF3.out.set5 (Nat.le_refl _) _ _ _ _ _
/-- What a definition's reader tells. -/
def DmP (xb rb b D : Nat) (r : DefO × St) (w : World) (e : Ending) (w' : World) : Prop :=
  ∃ v : XV, e = .returned (.agg #[.string ⟨r.1.nm.toArray⟩, .string v.o, .string v.nm, .int .i64 v.n, .slice v.A v.ll v.cap, .int .i64 v.p, .int .i64 ((r.1.pos : Nat) : Int)]) ∧ XO w' (w.heap.size + 1) r.1.x v.c ∧ MRd w' xb rb b D r.2 ∧ Fx (X2 xb rb) w w'
end
end
section
open Go.RowKit

section
variable {xb rb b D : Nat} {st : St}
set_option maxHeartbeats 1000000 in
theorem mdefn_any (w : World) (h : MRd w xb rb b D st) : Calls Tryz.prog 80 #[.pointer (some ⟨xb, 0, none⟩)] w (DmP xb rb b D (st.defn D) w) := by
  have hx := h.ltx
  have hrb := h.hr
  have HN := Lib.hid h.nx
  have hbl := h.ble
  have H := Lib.hid h
  clear h
  go_enter Tryz.func80, Tryz.ntmps80
  go_wp2_with fail
  refine calls_gen (P := fun W => MRd W xb rb b D st ∧ Bx W w.heap.size 118 [.string ⟨#[]⟩, .string ⟨#[]⟩, .string ⟨#[]⟩, .int .i64 0, .slice none 0 0, .int .i64 0, .int .i64 0] ∧ Fx (X2 xb rb) w W) ⟨H.out.alloc _, Bx.new _ _ _, (Fx.refl _ _).alloc _⟩ ?_
  rintro W ⟨hM, hB, hF⟩
  refine (mname_any W hM).mono ?_
  rintro e w1 ⟨rfl, hM1, hF1⟩
  have HM1 := Lib.hid hM1
  have HB1 := Lib.hid (hB.fx hF1 (HN.out _ (Nat.le_refl _)))
  have HF1 := Lib.hid (hF.trans hF1)
  clear hM hB hF hM1 hF1 H
  go_wp2_with fail
  refine (mmean_any w1 HM1.out).mono ?_
  rintro e w2 ⟨v, rfl, hX, hM2, hF2⟩
  have HM2 := Lib.hid hM2
  have HX2 := Lib.hid (hX.mono (by have := HF1.out.size; omega : w.heap.size + 1 ≤ w1.heap.size + 1))
  have hB2 := HB1.out.fx hF2 (HN.out _ (Nat.le_refl _))
  have HF2 := Lib.hid (HF1.out.trans hF2)
  have a0 := hB2.cell 0
  have a1 := hB2.cell 1
  have a2 := hB2.cell 2
  have a3 := hB2.cell 3
  have a4 := hB2.cell 4
  have a5 := hB2.cell 5
  have a6 := hB2.cell 6
  simp only [List.getElem?_cons_zero, List.getElem?_cons_succ] at a0 a1 a2 a3 a4 a5 a6
  have y0 := hB2.frozen 0
  have y1 := hB2.frozen 1
  have y2 := hB2.frozen 2
  have y3 := hB2.frozen 3
  have y4 := hB2.frozen 4
  have y5 := hB2.frozen 5
  have y6 := hB2.frozen 6
  have hl1 := hB2.lt
  have HB2 := Lib.hid hB2
  clear hX hM2 hF2 HM1 HB1 HF1 hB2
  go_wp2
  have hB3 := HB2.out.setL (i := 0) (us := [.string ⟨st.name.1.1.toArray⟩, .string v.o, .string v.nm, .int .i64 v.n, .slice v.A v.ll v.cap, .int .i64 v.p, .int .i64 ((st.name.1.2 : Nat) : Int)])
  simp only [setL, setLs, List.set_cons_zero, List.set_cons_succ] at hB3
  refine bodyPost_ret (v := .agg #[.string ⟨st.name.1.1.toArray⟩, .string v.o, .string v.nm, .int .i64 v.n, .slice v.A v.ll v.cap, .int .i64 v.p, .int .i64 ((st.name.1.2 : Nat) : Int)]) (by simp [results, Tryz.results80, go_sem, hB3.cell]) rfl ⟨v, rfl, ?_, ?_, ?_⟩
  · exact XO.setL (i := 0) (us := [.string ⟨st.name.1.1.toArray⟩, .string v.o, .string v.nm, .int .i64 v.n, .slice v.A v.ll v.cap, .int .i64 v.p, .int .i64 ((st.name.1.2 : Nat) : Int)]) HX2.out (by omega)
  · exact MRd.setL (i := 0) (us := [.string ⟨st.name.1.1.toArray⟩, .string v.o, .string v.nm, .int .i64 v.n, .slice v.A v.ll v.cap, .int .i64 v.p, .int .i64 ((st.name.1.2 : Nat) : Int)]) (by unfold RdT; decide) (by omega) HM2.out HB2.out
  · exact Fx.setL (i := 0) (us := [.string ⟨st.name.1.1.toArray⟩, .string v.o, .string v.nm, .int .i64 v.n, .slice v.A v.ll v.cap, .int .i64 v.p, .int .i64 ((st.name.1.2 : Nat) : Int)]) (.inl (Nat.le_refl _)) HF2.out
set_option maxHeartbeats 1000000 in
theorem mlabel_any (w : World) (h : MRd w xb rb b D st) : Calls Tryz.prog 81 #[.pointer (some ⟨xb, 0, none⟩)] w (DmP xb rb b D (st.labl D) w) := by
  have hx := h.ltx
  have hrb := h.hr
  have HN := Lib.hid h.nx
  have hbl := h.ble
  have H := Lib.hid h
  clear h
  go_enter Tryz.func81, Tryz.ntmps81
  go_wp2_with fail
  refine calls_gen (P := fun W => MRd W xb rb b D st ∧ Bx W w.heap.size 118 [.string ⟨#[]⟩, .string ⟨#[]⟩, .string ⟨#[]⟩, .int .i64 0, .slice none 0 0, .int .i64 0, .int .i64 0] ∧ Fx (X2 xb rb) w W) ⟨H.out.alloc _, Bx.new _ _ _, (Fx.refl _ _).alloc _⟩ ?_
  rintro W ⟨hM, hB, hF⟩
  refine (mtext_any W hM).mono ?_
  rintro e w1 ⟨rfl, hM1, hF1⟩
  have HM1 := Lib.hid hM1
  have HB1 := Lib.hid (hB.fx hF1 (HN.out _ (Nat.le_refl _)))
  have HF1 := Lib.hid (hF.trans hF1)
  clear hM hB hF hM1 hF1 H
  go_wp2_with fail
  refine (mmean_any w1 HM1.out).mono ?_
  rintro e w2 ⟨v, rfl, hX, hM2, hF2⟩
  have HM2 := Lib.hid hM2
  have HX2 := Lib.hid (hX.mono (by have := HF1.out.size; omega : w.heap.size + 1 ≤ w1.heap.size + 1))
  have hB2 := HB1.out.fx hF2 (HN.out _ (Nat.le_refl _))
  have HF2 := Lib.hid (HF1.out.trans hF2)
  have a0 := hB2.cell 0
  have a1 := hB2.cell 1
  have a2 := hB2.cell 2
  have a3 := hB2.cell 3
  have a4 := hB2.cell 4
  have a5 := hB2.cell 5
  have a6 := hB2.cell 6
  simp only [List.getElem?_cons_zero, List.getElem?_cons_succ] at a0 a1 a2 a3 a4 a5 a6
  have y0 := hB2.frozen 0
  have y1 := hB2.frozen 1
  have y2 := hB2.frozen 2
  have y3 := hB2.frozen 3
  have y4 := hB2.frozen 4
  have y5 := hB2.frozen 5
  have y6 := hB2.frozen 6
  have hl1 := hB2.lt
  have HB2 := Lib.hid hB2
  clear hX hM2 hF2 HM1 HB1 HF1 hB2
  go_wp2
  have hB3 := HB2.out.setL (i := 0) (us := [.string ⟨st.text.1.1.toArray⟩, .string v.o, .string v.nm, .int .i64 v.n, .slice v.A v.ll v.cap, .int .i64 v.p, .int .i64 ((st.text.1.2 : Nat) : Int)])
  simp only [setL, setLs, List.set_cons_zero, List.set_cons_succ] at hB3
  refine bodyPost_ret (v := .agg #[.string ⟨st.text.1.1.toArray⟩, .string v.o, .string v.nm, .int .i64 v.n, .slice v.A v.ll v.cap, .int .i64 v.p, .int .i64 ((st.text.1.2 : Nat) : Int)]) (by simp [results, Tryz.results81, go_sem, hB3.cell]) rfl ⟨v, rfl, ?_, ?_, ?_⟩
  · exact XO.setL (i := 0) (us := [.string ⟨st.text.1.1.toArray⟩, .string v.o, .string v.nm, .int .i64 v.n, .slice v.A v.ll v.cap, .int .i64 v.p, .int .i64 ((st.text.1.2 : Nat) : Int)]) HX2.out (by omega)
  · exact MRd.setL (i := 0) (us := [.string ⟨st.text.1.1.toArray⟩, .string v.o, .string v.nm, .int .i64 v.n, .slice v.A v.ll v.cap, .int .i64 v.p, .int .i64 ((st.text.1.2 : Nat) : Int)]) (by unfold RdT; decide) (by omega) HM2.out HB2.out
  · exact Fx.setL (i := 0) (us := [.string ⟨st.text.1.1.toArray⟩, .string v.o, .string v.nm, .int .i64 v.n, .slice v.A v.ll v.cap, .int .i64 v.p, .int .i64 ((st.text.1.2 : Nat) : Int)]) (.inl (Nat.le_refl _)) HF2.out
/-- What the bounds' reader tells. -/
def BmP (xb rb b D : Nat) (r : (Option Ex × Option Ex) × St) (w : World) (e : Ending) (w' : World) : Prop :=
  ∃ v u : XV, e = .returned (.tuple #[.agg #[.string v.o, .string v.nm, .int .i64 v.n, .slice v.A v.ll v.cap, .int .i64 v.p], .agg #[.string u.o, .string u.nm, .int .i64 u.n, .slice u.A u.ll u.cap, .int .i64 u.p]]) ∧ XO w' (w.heap.size + 1) r.1.1 v.c ∧ XO w' (w.heap.size + 1) r.1.2 u.c ∧ MRd w' xb rb b D r.2 ∧ Fx (X2 xb rb) w w'
set_option maxHeartbeats 2000000 in
theorem mbounds_any (w : World) (h : MRd w xb rb b D st) : Calls Tryz.prog 126 #[.pointer (some ⟨xb, 0, none⟩)] w (BmP xb rb b D (st.bnds D) w) := by
  have hx := h.ltx
  have hrb := h.hr
  have HN := Lib.hid h.nx
  have hbl := h.ble
  have H := Lib.hid h
  clear h
  go_enter Tryz.func126, Tryz.ntmps126
  go_wp2_with fail
  refine calls_gen (P := fun W => MRd W xb rb b D st ∧ Box W w.heap.size (.string ⟨#[]⟩) (.string ⟨#[]⟩) (.int .i64 0) (.slice none 0 0) (.int .i64 0) ∧ Box W (w.heap.size + 1) (.string ⟨#[]⟩) (.string ⟨#[]⟩) (.int .i64 0) (.slice none 0 0) (.int .i64 0) ∧ Fx (X2 xb rb) w W) ⟨(H.out.alloc _).alloc _, (Box.new _ _ _ _ _ _).alloc _, heap_new_at (by simp) _, ((Fx.refl _ _).alloc _).alloc _⟩ ?_
  rintro W ⟨hM, hB, hC, hF⟩
  refine (mwant_any W hM _).mono ?_
  rintro e w1 ⟨rfl, hM1, hF1⟩
  have HM1 := Lib.hid (show MRd w1 xb rb b D (st.want [91]) from hM1)
  have HB1 := Lib.hid (hB.fxb hF1 (HN.out _ (Nat.le_refl _)))
  have HC1 := Lib.hid (hC.fxb hF1 (HN.out _ (by omega)))
  have HF1 := Lib.hid (hF.trans hF1)
  have hs1 := HC1.out.lt
  clear hM hB hC hF hM1 hF1 H
  go_wp2_with fail
  refine (mexpr_any w1 HM1.out).mono ?_
  rintro e w2 ⟨v, rfl, hX, hM2, hF2⟩
  have HM2 := Lib.hid (show MRd w2 xb rb b D (st.low D).2 from hM2)
  have HX2 := Lib.hid (show XO w2 (w.heap.size + 2) (st.low D).1 v.c from hX.mono (by omega))
  have HB2 := Lib.hid (HB1.out.fxb hF2 (HN.out _ (Nat.le_refl _)))
  have HC2 := Lib.hid (HC1.out.fxb hF2 (HN.out _ (by omega)))
  have HF2 := Lib.hid (HF1.out.trans hF2)
  have hs2 := HC2.out.lt
  clear hX hM2 hF2 HM1 HB1 HC1 HF1
  go_wp2_with fail
  refine calls_gen (P := fun W => MRd W xb rb b D (st.low D).2 ∧ Box W w.heap.size (.string ⟨#[]⟩) (.string ⟨#[]⟩) (.int .i64 0) (.slice none 0 0) (.int .i64 0) ∧ Box W (w.heap.size + 1) (.string ⟨#[]⟩) (.string ⟨#[]⟩) (.int .i64 0) (.slice none 0 0) (.int .i64 0) ∧ Box W w2.heap.size (.string v.o) (.string v.nm) (.int .i64 v.n) (.slice v.A v.ll v.cap) (.int .i64 v.p) ∧ XO W (w.heap.size + 2) (st.low D).1 v.c ∧ Fx (X2 xb rb) w W) ⟨HM2.out.alloc _, HB2.out.alloc _, HC2.out.alloc _, Box.new _ _ _ _ _ _, HX2.out.alloc _, HF2.out.alloc _⟩ ?_
  rintro W ⟨hM, hB, hC, hE, hX, hF⟩
  refine (mwant_any W hM _).mono ?_
  rintro e w3 ⟨rfl, hM3, hF3⟩
  have HM3 := Lib.hid (show MRd w3 xb rb b D ((st.low D).2.want [46, 46]) from hM3)
  have HB3 := Lib.hid (hB.fxb hF3 (HN.out _ (Nat.le_refl _)))
  have HC3 := Lib.hid (hC.fxb hF3 (HN.out _ (by omega)))
  have HE3 := Lib.hid (hE.fxb hF3 (HN.out _ (by omega)))
  have HX3 := Lib.hid (hX.fx hF3 (fun k hk => by have := x2_lt hk hx hrb; omega))
  have HF3 := Lib.hid (hF.trans hF3)
  have hs3 := HE3.out.lt
  clear hM hB hC hE hX hF hM3 hF3 HM2 HB2 HC2 HX2 HF2
  go_wp2_with fail
  refine (mexpr_any w3 HM3.out).mono ?_
  rintro e w4 ⟨u, rfl, hX, hM4, hF4⟩
  have HM4 := Lib.hid (show MRd w4 xb rb b D (st.high D).2 from hM4)
  have HU4 := Lib.hid (show XO w4 (w.heap.size + 2) (st.high D).1 u.c from hX.mono (by omega))
  have HX4 := Lib.hid (HX3.out.fx hF4 (fun k hk => by have := x2_lt hk hx hrb; omega))
  have HB4 := Lib.hid (HB3.out.fxb hF4 (HN.out _ (Nat.le_refl _)))
  have HC4 := Lib.hid (HC3.out.fxb hF4 (HN.out _ (by omega)))
  have HE4 := Lib.hid (HE3.out.fxb hF4 (HN.out _ (by omega)))
  have HF4 := Lib.hid (HF3.out.trans hF4)
  have hs4 := HE4.out.lt
  clear hX hM4 hF4 HM3 HB3 HC3 HE3 HX3 HF3
  go_wp2_with fail
  refine calls_gen (P := fun W => MRd W xb rb b D (st.high D).2 ∧ Box W w.heap.size (.string ⟨#[]⟩) (.string ⟨#[]⟩) (.int .i64 0) (.slice none 0 0) (.int .i64 0) ∧ Box W (w.heap.size + 1) (.string ⟨#[]⟩) (.string ⟨#[]⟩) (.int .i64 0) (.slice none 0 0) (.int .i64 0) ∧ Box W w2.heap.size (.string v.o) (.string v.nm) (.int .i64 v.n) (.slice v.A v.ll v.cap) (.int .i64 v.p) ∧ Box W w4.heap.size (.string u.o) (.string u.nm) (.int .i64 u.n) (.slice u.A u.ll u.cap) (.int .i64 u.p) ∧ XO W (w.heap.size + 2) (st.low D).1 v.c ∧ XO W (w.heap.size + 2) (st.high D).1 u.c ∧ Fx (X2 xb rb) w W) ⟨HM4.out.alloc _, HB4.out.alloc _, HC4.out.alloc _, HE4.out.alloc _, Box.new _ _ _ _ _ _, HX4.out.alloc _, HU4.out.alloc _, HF4.out.alloc _⟩ ?_
  rintro W ⟨hM, hB, hC, hE, hG, hX, hU, hF⟩
  refine (mwant_any W hM _).mono ?_
  rintro e w5 ⟨rfl, hM5, hF5⟩
  have HM5 := Lib.hid (show MRd w5 xb rb b D ((st.high D).2.want [93]) from hM5)
  have hB5 := hB.fxb hF5 (HN.out _ (Nat.le_refl _))
  have hC5 := hC.fxb hF5 (HN.out _ (by omega))
  have hE5 := hE.fxb hF5 (HN.out _ (by omega))
  have hG5 := hG.fxb hF5 (HN.out _ (by omega))
  have HX5 := Lib.hid (hX.fx hF5 (fun k hk => by have := x2_lt hk hx hrb; omega))
  have HU5 := Lib.hid (hU.fx hF5 (fun k hk => by have := x2_lt hk hx hrb; omega))
  have HF5 := Lib.hid (hF.trans hF5)
  obtain ⟨a0, a1, a2, a3, a4⟩ := hB5.cells
  obtain ⟨y0, y1, y2, y3, y4⟩ := hB5.frozen
  obtain ⟨c0, c1, c2, c3, c4⟩ := hC5.cells
  obtain ⟨z0, z1, z2, z3, z4⟩ := hC5.frozen
  obtain ⟨d0, d1, d2, d3, d4⟩ := hE5.cells
  obtain ⟨k0, k1, k2, k3, k4⟩ := hG5.cells
  have hl1 := hB5.lt
  have hl2 := hC5.lt
  have hl3 := hE5.lt
  have hl4 := hG5.lt
  have HB5 := Lib.hid hB5
  have HC5 := Lib.hid hC5
  clear hM hB hC hE hG hX hU hF hM5 hF5 hB5 hC5 hE5 hG5 HM4 HB4 HC4 HE4 HX4 HU4 HF4
  have e1 : w.heap.size ≠ w4.heap.size := by omega
  have e2 : w.heap.size ≠ w2.heap.size := by omega
  have e3 : w.heap.size + 1 ≠ w4.heap.size := by omega
  have e4 : w.heap.size + 1 ≠ w2.heap.size := by omega
  go_wp2_with fail
  go_region
  go_wp2_with fail
  have hB6 := (HB5.out.set5 (.string v.o) (.string v.nm) (.int .i64 v.n) (.slice v.A v.ll v.cap) (.int .i64 v.p)).far5 (b' := w.heap.size + 1) (by omega) (.string u.o) (.string u.nm) (.int .i64 u.n) (.slice u.A u.ll u.cap) (.int .i64 u.p)
  have hC6 := (HC5.out.far5 (b' := w.heap.size) (by omega) (.string v.o) (.string v.nm) (.int .i64 v.n) (.slice v.A v.ll v.cap) (.int .i64 v.p)).set5 (.string u.o) (.string u.nm) (.int .i64 u.n) (.slice u.A u.ll u.cap) (.int .i64 u.p)
  obtain ⟨m0, m1, m2, m3, m4⟩ := hB6.cells
  obtain ⟨p0, p1, p2, p3, p4⟩ := hC6.cells
  refine bodyPost_ret (v := .tuple #[.agg #[.string v.o, .string v.nm, .int .i64 v.n, .slice v.A v.ll v.cap, .int .i64 v.p], .agg #[.string u.o, .string u.nm, .int .i64 u.n, .slice u.A u.ll u.cap, .int .i64 u.p]]) (by simp [results, Tryz.results126, go_sem, m0, m1, m2, m3, m4, p0, p1, p2, p3, p4]) rfl ⟨v, u, rfl, ?_, ?_, ?_, ?_⟩
  · exact (((HX5.out.set5 (q := w.heap.size) (by omega) (.string v.o) (.string v.nm) (.int .i64 v.n) (.slice v.A v.ll v.cap) (.int .i64 v.p)).set5 (q := w.heap.size + 1) (by omega) (.string u.o) (.string u.nm) (.int .i64 u.n) (.slice u.A u.ll u.cap) (.int .i64 u.p)).mono (by omega)).below (Below.refl _ _).drew
  · exact (((HU5.out.set5 (q := w.heap.size) (by omega) (.string v.o) (.string v.nm) (.int .i64 v.n) (.slice v.A v.ll v.cap) (.int .i64 v.p)).set5 (q := w.heap.size + 1) (by omega) (.string u.o) (.string u.nm) (.int .i64 u.n) (.slice u.A u.ll u.cap) (.int .i64 u.p)).mono (by omega)).below (Below.refl _ _).drew
  · exact ((HM5.out.set5 HB5.out (by omega) (.string v.o) (.string v.nm) (.int .i64 v.n) (.slice v.A v.ll v.cap) (.int .i64 v.p)).set5 (HC5.out.far5 (b' := w.heap.size) (by omega) (.string v.o) (.string v.nm) (.int .i64 v.n) (.slice v.A v.ll v.cap) (.int .i64 v.p)) (by omega) (.string u.o) (.string u.nm) (.int .i64 u.n) (.slice u.A u.ll u.cap) (.int .i64 u.p)).drew
  · exact ((HF5.out.set5 (q := w.heap.size) (Nat.le_refl _) (.string v.o) (.string v.nm) (.int .i64 v.n) (.slice v.A v.ll v.cap) (.int .i64 v.p)).set5 (q := w.heap.size + 1) (by omega) (.string u.o) (.string u.nm) (.int .i64 u.n) (.slice u.A u.ll u.cap) (.int .i64 u.p)).drew
end
end
section
open Go.RowKit

section
variable {xb rb b D : Nat} {st : St}
set_option maxHeartbeats 2000000 in
theorem msett_any (w : World) (h : MRd w xb rb b D st) : Calls Tryz.prog 148 #[.pointer (some ⟨xb, 0, none⟩)] w (DmP xb rb b D (st.sett D) w) := by
  have hx := h.ltx
  have hrb := h.hr
  have HN := Lib.hid h.nx
  have hbl := h.ble
  have H := Lib.hid h
  clear h
  go_enter Tryz.func148, Tryz.ntmps148
  go_wp2_with fail
  refine calls_gen (P := fun W => MRd W xb rb b D st ∧ Bx W w.heap.size 115 [.string ⟨#[]⟩, .string ⟨#[]⟩, .string ⟨#[]⟩, .int .i64 0, .slice none 0 0, .int .i64 0, .int .i64 0] ∧ Fx (X2 xb rb) w W) ⟨H.out.alloc _, Bx.new _ _ _, (Fx.refl _ _).alloc _⟩ ?_
  rintro W ⟨hM, hB, hF⟩
  refine (mwant_any W hM _).mono ?_
  rintro e w1 ⟨rfl, hM1, hF1⟩
  have HM1 := Lib.hid (show MRd w1 xb rb b D (st.want [40]) from hM1)
  have HB1 := Lib.hid (hB.fx hF1 (HN.out _ (Nat.le_refl _)))
  have HF1 := Lib.hid (hF.trans hF1)
  clear hM hB hF hM1 hF1 H
  go_wp2_with fail
  refine (mname_any w1 HM1.out).mono ?_
  rintro e w2 ⟨rfl, hM2, hF2⟩
  have HM2 := Lib.hid hM2
  have HB2 := Lib.hid (HB1.out.fx hF2 (HN.out _ (Nat.le_refl _)))
  have HF2 := Lib.hid (HF1.out.trans hF2)
  clear hM2 hF2 HM1 HB1 HF1
  go_wp2_with fail
  refine (mwant_any w2 HM2.out _).mono ?_
  rintro e w3 ⟨rfl, hM3, hF3⟩
  have HM3 := Lib.hid (show MRd w3 xb rb b D ((st.want [40]).name.2.want [39]) from hM3)
  have HB3 := Lib.hid (HB2.out.fx hF3 (HN.out _ (Nat.le_refl _)))
  have HF3 := Lib.hid (HF2.out.trans hF3)
  clear hM3 hF3 HM2 HB2 HF2
  go_wp2_with fail
  refine (mwant_any w3 HM3.out _).mono ?_
  rintro e w4 ⟨rfl, hM4, hF4⟩
  have HM4 := Lib.hid (show MRd w4 xb rb b D (((st.want [40]).name.2.want [39]).want [61]) from hM4)
  have HB4 := Lib.hid (HB3.out.fx hF4 (HN.out _ (Nat.le_refl _)))
  have HF4 := Lib.hid (HF3.out.trans hF4)
  clear hM4 hF4 HM3 HB3 HF3
  go_wp2_with fail
  refine (mexpr_any w4 HM4.out).mono ?_
  rintro e w5 ⟨v, rfl, hX, hM5, hF5⟩
  have HM5 := Lib.hid hM5
  have HX5 := Lib.hid (hX.mono (by have := HF4.out.size; omega : w.heap.size + 1 ≤ w4.heap.size + 1))
  have HB5 := Lib.hid (HB4.out.fx hF5 (HN.out _ (Nat.le_refl _)))
  have HF5 := Lib.hid (HF4.out.trans hF5)
  have hs5 := HB5.out.lt
  clear hX hM5 hF5 HM4 HB4 HF4
  go_wp2_with fail
  refine calls_gen (P := fun W => MRd W xb rb b D ((((st.want [40]).name.2.want [39]).want [61]).expr D).2 ∧ Bx W w.heap.size 115 [.string ⟨#[]⟩, .string ⟨#[]⟩, .string ⟨#[]⟩, .int .i64 0, .slice none 0 0, .int .i64 0, .int .i64 0] ∧ Box W w5.heap.size (.string v.o) (.string v.nm) (.int .i64 v.n) (.slice v.A v.ll v.cap) (.int .i64 v.p) ∧ XO W (w.heap.size + 1) ((((st.want [40]).name.2.want [39]).want [61]).expr D).1 v.c ∧ Fx (X2 xb rb) w W) ⟨HM5.out.alloc _, HB5.out.alloc _, Box.new _ _ _ _ _ _, HX5.out.alloc _, HF5.out.alloc _⟩ ?_
  rintro W ⟨hM, hB, hE, hX, hF⟩
  refine (mwant_any W hM _).mono ?_
  rintro e w6 ⟨rfl, hM6, hF6⟩
  have HM6 := Lib.hid (show MRd w6 xb rb b D (st.sett D).2 from hM6)
  have hB6 := hB.fx hF6 (HN.out _ (Nat.le_refl _))
  have hE6 := hE.fxb hF6 (HN.out _ (by omega))
  have HX6 := Lib.hid (hX.fx hF6 (fun k hk => by have := x2_lt hk hx hrb; omega))
  have HF6 := Lib.hid (hF.trans hF6)
  obtain ⟨d0, d1, d2, d3, d4⟩ := hE6.cells
  have a0 := hB6.cell 0
  have a1 := hB6.cell 1
  have a2 := hB6.cell 2
  have a3 := hB6.cell 3
  have a4 := hB6.cell 4
  have a5 := hB6.cell 5
  have a6 := hB6.cell 6
  simp only [List.getElem?_cons_zero, List.getElem?_cons_succ] at a0 a1 a2 a3 a4 a5 a6
  have y0 := hB6.frozen 0
  have y1 := hB6.frozen 1
  have y2 := hB6.frozen 2
  have y3 := hB6.frozen 3
  have y4 := hB6.frozen 4
  have y5 := hB6.frozen 5
  have y6 := hB6.frozen 6
  have hl1 := hB6.lt
  have hl2 := hE6.lt
  have HB6 := Lib.hid hB6
  clear hM hB hE hX hF hM6 hF6 hB6 hE6 HM5 HB5 HX5 HF5
  go_wp2
  have hB7 := HB6.out.setL (i := 0) (us := [.string ⟨(st.want [40]).name.1.1.toArray⟩, .string v.o, .string v.nm, .int .i64 v.n, .slice v.A v.ll v.cap, .int .i64 v.p, .int .i64 (((st.want [40]).name.1.2 : Nat) : Int)])
  simp only [setL, setLs, List.set_cons_zero, List.set_cons_succ] at hB7
  refine bodyPost_ret (v := .agg #[.string ⟨(st.want [40]).name.1.1.toArray⟩, .string v.o, .string v.nm, .int .i64 v.n, .slice v.A v.ll v.cap, .int .i64 v.p, .int .i64 (((st.want [40]).name.1.2 : Nat) : Int)]) (by simp [results, Tryz.results148, go_sem, hB7.cell]) rfl ⟨v, rfl, ?_, ?_, ?_⟩
  · exact XO.setL (i := 0) (us := [.string ⟨(st.want [40]).name.1.1.toArray⟩, .string v.o, .string v.nm, .int .i64 v.n, .slice v.A v.ll v.cap, .int .i64 v.p, .int .i64 (((st.want [40]).name.1.2 : Nat) : Int)]) HX6.out (by omega)
  · exact MRd.setL (i := 0) (us := [.string ⟨(st.want [40]).name.1.1.toArray⟩, .string v.o, .string v.nm, .int .i64 v.n, .slice v.A v.ll v.cap, .int .i64 v.p, .int .i64 (((st.want [40]).name.1.2 : Nat) : Int)]) (by unfold RdT; decide) (by omega) HM6.out HB6.out
  · exact Fx.setL (i := 0) (us := [.string ⟨(st.want [40]).name.1.1.toArray⟩, .string v.o, .string v.nm, .int .i64 v.n, .slice v.A v.ll v.cap, .int .i64 v.p, .int .i64 (((st.want [40]).name.1.2 : Nat) : Int)]) (.inl (Nat.le_refl _)) HF6.out
theorem MRd.number_yes {w : World} (h : MRd w xb rb b D st) (hk : st.hd.kind = 2) : Calls Tryz.prog 161 #[.pointer (st.ptr rb)] w fun e w' => e = .returned (.tuple #[.int .i64 (valOf st.hd.text), .nilIface]) ∧ MRd w' xb rb b D st.tl ∧ Fx (X2 xb rb) w w' := by
  have h0 : st.hd.kind ≠ 0 := by omega
  obtain ⟨us, rfl⟩ := hd_good h0
  have hT : TR w rb us := h.tr
  obtain ⟨ts, k, h1, h2, h3⟩ := hT.get
  obtain ⟨n0, n1, n2⟩ := hT.fine.numb hk
  exact (Go.Proofs.YtodijgndbjfbgaaGreatDoor.number_yes h.glob h2 h3 hk (tr_len hT h1 h0) hT.fine.len n0 n1 n2).mono fun _ _ ⟨he, hR, hg⟩ => ⟨he, h.on h1 h0 hR hg⟩
theorem MRd.number_no {w : World} (h : MRd w xb rb b D st) (hk : st.hd.kind ≠ 2) : Calls Tryz.prog 161 #[.pointer (st.ptr rb)] w fun e w' => ∃ t u, e = .returned (.tuple #[.int .i64 0, .iface t u]) ∧ Below w.heap.size w w' := by
  cases st with
  | bad c p => exact (number_nil w).mono fun _ _ ⟨h1, h2⟩ => ⟨_, _, h1, h2⟩
  | good us => exact (Go.Proofs.YtodijgndbjfbgaaGreatDoor.number_no h.peeks hk).mono fun _ _ ⟨eb, h1, _, _, h2⟩ => ⟨_, _, h1, h2⟩
def WmP (xb rb b D : Nat) (r : Nat × St) (w : World) (e : Ending) (w' : World) : Prop := e = .returned (.int .i64 ((r.1 : Nat) : Int)) ∧ MRd w' xb rb b D r.2 ∧ Fx (X2 xb rb) w w'
set_option maxHeartbeats 2000000 in
theorem mweight_any (w : World) (h : MRd w xb rb b D st) : Calls Tryz.prog 146 #[.pointer (some ⟨xb, 0, none⟩)] w (WmP xb rb b D st.wght w) := by
  have hx := h.ltx
  have c0 := h.c0
  have H := Lib.hid h
  have H1 := Lib.hid h.peek
  have hf0 := field0
  have hf1 := field1
  have hf2 := field2
  by_cases hk : st.hd.kind = 2
  · have HNU := Lib.hid (fun (W : World) (hW : MRd W xb rb b D st) => hW.number_yes hk)
    have h0 : st.hd.kind ≠ 0 := by omega
    by_cases hv : valOf st.hd.text = 0
    · have g1 : (((valOf st.hd.text : Nat) : Int) == 0) = true := by rw [hv]; rfl
      obtain ⟨us, hus⟩ := hd_good h0
      have HG := Lib.hid hus
      rw [show st.wght = (valOf st.hd.text, .bad 33 st.hd.pos) by simp [St.wght, hk, hv]]
      clear h hk h0 hv hus
      go_enter Tryz.func146, Tryz.ntmps146
      go_wp2_with fail
      with_reducible refine (H1.out).mono ?_
      rintro e w1 ⟨rfl, hb1⟩
      have c1 := (H.out.below hb1).c0
      have hx1 := (H.out.below hb1).ltx
      have HB := Lib.hid hb1
      clear hb1
      go_wp2_with fail
      refine (HNU.out _ (H.out.below HB.out)).mono ?_
      rintro e w2 ⟨rfl, hM, hF⟩
      have HM := Lib.hid (show MRd w2 xb rb b D (.good us.tail) by have := hM; rw [HG.out] at this; exact this)
      have HF := Lib.hid hF
      clear hM hF
      go_wp2_with fail
      refine (mfail_good (c := 33) (p := st.hd.pos) _ (HM.out.alloc _).mr0 (AtE.new rfl _ _)).mono ?_
      rintro e w3 ⟨rfl, hM, hF⟩
      have HM3 := Lib.hid hM
      have HF3 := Lib.hid hF
      clear hM hF
      go_wp2_with fail
      refine (mwant_any w3 HM3.out _).mono ?_
      rintro e w4 ⟨rfl, hM, hF⟩
      go_wp2
      go_ret
      exact ⟨rfl, hM, ((((Fx.of HB.out).trans HF.out).alloc _).trans HF3.out).trans hF⟩
    · have g1 : (((valOf st.hd.text : Nat) : Int) == 0) = false := by rw [beq_eq_false_iff_ne]; omega
      rw [show st.wght = (valOf st.hd.text, st.tl.want [58]) by simp [St.wght, hk, hv]]
      clear h hk h0 hv
      go_enter Tryz.func146, Tryz.ntmps146
      go_wp2_with fail
      with_reducible refine (H1.out).mono ?_
      rintro e w1 ⟨rfl, hb1⟩
      have c1 := (H.out.below hb1).c0
      have hx1 := (H.out.below hb1).ltx
      have HB := Lib.hid hb1
      clear hb1
      go_wp2_with fail
      refine (HNU.out _ (H.out.below HB.out)).mono ?_
      rintro e w2 ⟨rfl, hM, hF⟩
      have HM := Lib.hid hM
      have HF := Lib.hid hF
      clear hM hF
      go_wp2_with fail
      refine (mwant_any w2 HM.out _).mono ?_
      rintro e w4 ⟨rfl, hM, hF⟩
      go_wp2
      go_ret
      exact ⟨rfl, hM, ((Fx.of HB.out).trans HF.out).trans hF⟩
  · have HNU := Lib.hid (fun (W : World) (hW : MRd W xb rb b D st) => hW.number_no hk)
    rw [show st.wght = (1, st) by simp [St.wght, hk]]
    clear h hk
    go_enter Tryz.func146, Tryz.ntmps146
    go_wp2_with fail
    with_reducible refine (H1.out).mono ?_
    rintro e w1 ⟨rfl, hb1⟩
    have c1 := (H.out.below hb1).c0
    have hx1 := (H.out.below hb1).ltx
    have HB := Lib.hid hb1
    clear hb1
    go_wp2_with fail
    refine (HNU.out _ (H.out.below HB.out)).mono ?_
    rintro e w2 ⟨t, u, rfl, hb2⟩
    have HB2 := Lib.hid hb2
    clear hb2
    go_wp2
    go_ret
    exact ⟨rfl, (H.out.below HB.out).below HB2.out, (Fx.of HB.out).on HB2.out⟩
end
end
end Go.Proofs.YtodijgndbjfbgaaGreatDoor
