/-
  Expressions of a reader of models, walked.
-/
import Derived.Test.YtddeplbgihcdkaaGreatDoorG4
namespace Go.Proofs.YtddeplbgihcdkaaGreatDoor
open Go.RowKit

theorem x2_lt {xb rb k n : Nat} (h : X2 xb rb k) (h1 : xb < n) (h2 : rb < n) : k < n := by rcases h with rfl | rfl <;> assumption
theorem Box.fxb {X : Nat → Prop} {w w' : World} {q : Nat} {c0 c1 c2 c3 c4 : Value} (h : Box w q c0 c1 c2 c3 c4) (hf : Fx X w w') (hx : ¬ X q) : Box w' q c0 c1 c2 c3 c4 := (hf.block q h.lt hx).trans h
theorem Fx.set5 {X : Nat → Prop} {a w : World} {q : Nat} (h : Fx X a w) (hq : a.heap.size ≤ q) (x0 x1 x2 x3 x4 : Value) : Fx X a (((((w.setCell ⟨q, 0, none⟩ x0).setCell ⟨q, 1, none⟩ x1).setCell ⟨q, 2, none⟩ x2).setCell ⟨q, 3, none⟩ x3).setCell ⟨q, 4, none⟩ x4) :=
  Fx.setL (us := [x0, x1, x2, x3, x4]) (i := 0) (.inl hq) h
theorem XO.set5 {w : World} {b q : Nat} {o : Option Ex} {c : List Value} (h : XO w b o c) (hq : q < b) (x0 x1 x2 x3 x4 : Value) : XO (((((w.setCell ⟨q, 0, none⟩ x0).setCell ⟨q, 1, none⟩ x1).setCell ⟨q, 2, none⟩ x2).setCell ⟨q, 3, none⟩ x3).setCell ⟨q, 4, none⟩ x4) b o c :=
  XO.setL (us := [x0, x1, x2, x3, x4]) (i := 0) h hq
theorem MRd.set5 {w : World} {xb rb b D q : Nat} {st : St} {c0 c1 c2 c3 c4 : Value} (h : MRd w xb rb b D st) (hb : Box w q c0 c1 c2 c3 c4) (hq : b ≤ q) (x0 x1 x2 x3 x4 : Value) : MRd (((((w.setCell ⟨q, 0, none⟩ x0).setCell ⟨q, 1, none⟩ x1).setCell ⟨q, 2, none⟩ x2).setCell ⟨q, 3, none⟩ x3).setCell ⟨q, 4, none⟩ x4) xb rb b D st :=
  MRd.setL (us := [x0, x1, x2, x3, x4]) (i := 0) (t := 62) (cs := [c0, c1, c2, c3, c4]) (by unfold RdT; decide) hq h hb
/-- A store to the newest block of all: nothing else is touched. -/
theorem XO.top5 {w : World} {b q : Nat} {o : Option Ex} {c : List Value} (h : XO w b o c) (hq : ∀ (k : Nat) (cs : Array Value), b ≤ k → w.heap[k]? = some (.cells cs 62 (0, 0)) → k ≠ q) (x0 x1 x2 x3 x4 : Value) : XO (((((w.setCell ⟨q, 0, none⟩ x0).setCell ⟨q, 1, none⟩ x1).setCell ⟨q, 2, none⟩ x2).setCell ⟨q, 3, none⟩ x3).setCell ⟨q, 4, none⟩ x4) b o c := by
  cases o with
  | none => exact h
  | some x => exact HS.keepY (fun k cs hb hc => setL_heap (hq k cs hb hc) [x0, x1, x2, x3, x4] w 0) (show HS w 62 (fun k => b ≤ k) x c from h)
theorem blk_typ {w : World} {k : Nat} {cs cs' : Array Value} {e e' : TypeId} (h : w.heap[k]? = some (.cells cs e (0, 0))) (h' : w.heap[k]? = some (.cells cs' e' (0, 0))) : e = e' := by
  rw [h] at h'
  injection h' with h'
  injection h' with _ h'
theorem keepS5 {w : World} {xb q : Nat} {u0 u1 : Value} (hq : xb ≠ q) (h : w.cell? ⟨xb, 0, none⟩ = some u0 ∧ w.cell? ⟨xb, 1, none⟩ = some u1) {x0 x1 x2 x3 x4 : Value} :
    (((((w.setCell ⟨q, 0, none⟩ x0).setCell ⟨q, 1, none⟩ x1).setCell ⟨q, 2, none⟩ x2).setCell ⟨q, 3, none⟩ x3).setCell ⟨q, 4, none⟩ x4).cell? ⟨xb, 0, none⟩ = some u0 ∧ (((((w.setCell ⟨q, 0, none⟩ x0).setCell ⟨q, 1, none⟩ x1).setCell ⟨q, 2, none⟩ x2).setCell ⟨q, 3, none⟩ x3).setCell ⟨q, 4, none⟩ x4).cell? ⟨xb, 1, none⟩ = some u1 :=
  ⟨(World.cell?_of_block (w := w) (a := ⟨xb, 0, none⟩) (setL_heap hq [x0, x1, x2, x3, x4] w 0)).trans h.1, (World.cell?_of_block (w := w) (a := ⟨xb, 1, none⟩) (setL_heap hq [x0, x1, x2, x3, x4] w 0)).trans h.2⟩
section
variable {xb rb b D : Nat} {st : St}
/-- What an expression's reader tells. -/
def EmP (xb rb b D : Nat) (r : Option Ex × St) (w : World) (e : Ending) (w' : World) : Prop :=
  ∃ v : XV, e = .returned (.agg #[.string v.o, .string v.nm, .int .i64 v.n, .slice v.A v.ll v.cap, .int .i64 v.p]) ∧ XO w' (w.heap.size + 1) r.1 v.c ∧ MRd w' xb rb b D r.2 ∧ Fx (X2 xb rb) w w'
/-- What Read has told ahead of fail. -/
structure Mid (xb rb b D : Nat) (r : Option Ex × St) (W w : World) (v : XV) (ev : Value) : Prop where
  x : XO w W.heap.size r.1 v.c
  fx : Fx (X2 xb rb) W w
  fl : ∀ w', Kt b (fun e => e = 62) w w' → (∀ k : Nat, k < b → w'.heap[k]? = w.heap[k]?) → w.heap.size ≤ w'.heap.size → Calls Tryz.prog 174 #[.pointer (some ⟨xb, 0, none⟩), ev] w' (MU xb rb b D r.2 w')
set_option maxHeartbeats 1000000 in
set_option maxRecDepth 100000 in
theorem mexpr_gen {r : Option Ex × St} {P : Option Addr} (w : World) (c0 : w.cell? ⟨xb, 0, none⟩ = some (.pointer P)) (c1 : w.cell? ⟨xb, 1, none⟩ = some (.int .i64 (D : Int))) (hx : xb < w.heap.size) (hrb : rb < w.heap.size) (hb : b ≤ xb)
    (HR : ∀ W, Below w.heap.size w W → Calls Tryz.prog 33 #[.pointer P, .int .i64 (D : Int)] W fun e w' => ∃ (v : XV) (ev : Value), e = .returned (.tuple #[.agg #[.string v.o, .string v.nm, .int .i64 v.n, .slice v.A v.ll v.cap, .int .i64 v.p], ev]) ∧ Mid xb rb b D r W w' v ev ∧ w'.cell? ⟨xb, 0, none⟩ = some (.pointer P) ∧ w'.cell? ⟨xb, 1, none⟩ = some (.int .i64 (D : Int))) :
    Calls Tryz.prog 240 #[.pointer (some ⟨xb, 0, none⟩)] w (EmP xb rb b D r w) := by
  have HH := Lib.hid HR
  have hnx : ∀ k, w.heap.size ≤ k → ¬ X2 xb rb k := fun k hk h => by have := x2_lt h hx hrb; omega
  have HN := Lib.hid hnx
  have HB0 := Lib.hid (show Below w.heap.size w ((w.alloc (.cells #[.string ⟨#[]⟩, .string ⟨#[]⟩, .int .i64 0, .slice none 0 0, .int .i64 0] 62)).drew) from ((Below.refl _ _).alloc (Nat.le_refl _) _).drew)
  have HB1 := Lib.hid (show Below w.heap.size w (((w.alloc (.cells #[.string ⟨#[]⟩, .string ⟨#[]⟩, .int .i64 0, .slice none 0 0, .int .i64 0] 62)).alloc (.cells #[.string ⟨#[]⟩, .string ⟨#[]⟩, .int .i64 0, .slice none 0 0, .int .i64 0] 62)).drew) from (((Below.refl _ _).alloc (Nat.le_refl _) _).alloc (by simp) _).drew)
  have HX1 := Lib.hid (fun (wA : World) (hf : Fx (X2 xb rb) (((w.alloc (.cells #[.string ⟨#[]⟩, .string ⟨#[]⟩, .int .i64 0, .slice none 0 0, .int .i64 0] 62)).alloc (.cells #[.string ⟨#[]⟩, .string ⟨#[]⟩, .int .i64 0, .slice none 0 0, .int .i64 0] 62)).drew) wA) => show Box wA (w.heap.size + 1) (.string ⟨#[]⟩) (.string ⟨#[]⟩) (.int .i64 0) (.slice none 0 0) (.int .i64 0) from Box.fxb (w := ((w.alloc (.cells #[.string ⟨#[]⟩, .string ⟨#[]⟩, .int .i64 0, .slice none 0 0, .int .i64 0] 62)).alloc (.cells #[.string ⟨#[]⟩, .string ⟨#[]⟩, .int .i64 0, .slice none 0 0, .int .i64 0] 62)).drew) (heap_new_at (by simp) _) hf (hnx _ (by omega)))
  have HX0 := Lib.hid (fun (wA : World) (hf : Fx (X2 xb rb) (((w.alloc (.cells #[.string ⟨#[]⟩, .string ⟨#[]⟩, .int .i64 0, .slice none 0 0, .int .i64 0] 62)).alloc (.cells #[.string ⟨#[]⟩, .string ⟨#[]⟩, .int .i64 0, .slice none 0 0, .int .i64 0] 62)).drew) wA) => show Box wA w.heap.size (.string ⟨#[]⟩) (.string ⟨#[]⟩) (.int .i64 0) (.slice none 0 0) (.int .i64 0) from Box.fxb (w := ((w.alloc (.cells #[.string ⟨#[]⟩, .string ⟨#[]⟩, .int .i64 0, .slice none 0 0, .int .i64 0] 62)).alloc (.cells #[.string ⟨#[]⟩, .string ⟨#[]⟩, .int .i64 0, .slice none 0 0, .int .i64 0] 62)).drew) ((Box.new w _ _ _ _ _).alloc _) hf (hnx _ (by omega)))
  have HY0 := Lib.hid (fun (wA : World) (hf : Fx (X2 xb rb) ((w.alloc (.cells #[.string ⟨#[]⟩, .string ⟨#[]⟩, .int .i64 0, .slice none 0 0, .int .i64 0] 62)).drew) wA) => show Box wA w.heap.size (.string ⟨#[]⟩) (.string ⟨#[]⟩) (.int .i64 0) (.slice none 0 0) (.int .i64 0) from Box.fxb (w := (w.alloc (.cells #[.string ⟨#[]⟩, .string ⟨#[]⟩, .int .i64 0, .slice none 0 0, .int .i64 0] 62)).drew) (Box.new w _ _ _ _ _) hf (hnx _ (by omega)))
  clear HR hnx
  go_enter Tryz.func240, Tryz.ntmps240
  have n0 := World.new_ne w ⟨xb, 0, none⟩ c0
  have n1 := World.new_ne w ⟨xb, 1, none⟩ c1
  go_wp2_with fail
  go_region_held3 (fun w' => w'.cell? ⟨xb, 0, none⟩ = some (.pointer P) ∧ w'.cell? ⟨xb, 1, none⟩ = some (.int .i64 (D : Int))) (first | with_reducible exact lk | go_keep | (refine keepS5 ?_ lk; omega)) (first
    | (go_at_call 33; (with_reducible refine (HH.out _ HB1.out).mono ?_); rintro e wA ⟨v, ev, rfl, hm, lk⟩; have hq := HX1.out _ hm.fx; have hqb := hq.cells; have hqz := hq.frozen; have hql := hq.lt; obtain ⟨b0, b1, b2, b3, b4⟩ := hqb; obtain ⟨z0, z1, z2, z3, z4⟩ := hqz; have hway := Lib.hid hq; clear hq)
    | (go_at_call 33; (with_reducible refine (HH.out _ HB0.out).mono ?_); rintro e wA ⟨v, ev, rfl, hm, lk⟩; have hway := Lib.hid True.intro))
  · go_wp2_with fail
    refine calls_gen (P := fun W2 => Calls Tryz.prog 174 #[.pointer (some ⟨xb, 0, none⟩), ev] W2 (MU xb rb b D r.2 W2) ∧ Box W2 wA.heap.size (.string v.o) (.string v.nm) (.int .i64 v.n) (.slice v.A v.ll v.cap) (.int .i64 v.p) ∧ Box W2 w.heap.size (.string ⟨#[]⟩) (.string ⟨#[]⟩) (.int .i64 0) (.slice none 0 0) (.int .i64 0) ∧ XO W2 (w.heap.size + 1) r.1 v.c ∧ Fx (X2 xb rb) w W2 ∧ w.heap.size < wA.heap.size) ⟨hm.fl _ (Kt.below ((Below.refl _ _).alloc (Nat.le_refl _) _)) (fun k hk => ((Below.refl wA.heap.size wA).alloc (Nat.le_refl _) _).block k (by have := hm.fx.size; simp at this; omega)) (by simp), Box.new wA _ _ _ _ _, (HY0.out wA hm.fx).alloc _, (hm.x.mono (by simp)).alloc _, ((Fx.of HB0.out).trans hm.fx).alloc _, by have := hm.fx.size; simp at this; omega⟩ ?_
    rintro W2 ⟨hfl, hB3, hB0, hXO, hF, hq3⟩
    refine hfl.mono ?_
    rintro e w4 ⟨rfl, hM, hF4⟩
    have hB3' := hB3.fxb hF4 (HN.out _ (by omega))
    have hB0' := hB0.fxb hF4 (HN.out _ (by omega))
    have HXO := Lib.hid (hXO.fx hF4 (fun k hk => by have := x2_lt hk hx hrb; omega))
    have HF := Lib.hid (hF.trans hF4)
    have HM := Lib.hid hM
    obtain ⟨d0, d1, d2, d3, d4⟩ := hB3'.cells
    obtain ⟨y0, y1, y2, y3, y4⟩ := hB0'.frozen
    obtain ⟨a0, a1, a2, a3, a4⟩ := hB0'.cells
    have hl4 := hB0'.lt
    have hl5 := hB3'.lt
    have HB0' := Lib.hid hB0'
    clear hfl hB3 hB0 hXO hF hM hF4 hB3' hB0' hway
    go_wp2
    obtain ⟨m0, m1, m2, m3, m4⟩ := (HB0'.out.set5 (.string v.o) (.string v.nm) (.int .i64 v.n) (.slice v.A v.ll v.cap) (.int .i64 v.p)).cells
    refine bodyPost_ret (v := .agg #[.string v.o, .string v.nm, .int .i64 v.n, .slice v.A v.ll v.cap, .int .i64 v.p]) (by simp [results, Tryz.results240, go_sem, m0, m1, m2, m3, m4]) rfl ⟨v, rfl, ?_, ?_, ?_⟩
    · exact HXO.out.set5 (by omega) _ _ _ _ _
    · exact HM.out.set5 HB0'.out (by omega) _ _ _ _ _
    · exact HF.out.set5 (Nat.le_refl _) _ _ _ _ _
  · go_wp2_with fail
    refine calls_gen (P := fun W2 => Calls Tryz.prog 174 #[.pointer (some ⟨xb, 0, none⟩), ev] W2 (MU xb rb b D r.2 W2) ∧ Box W2 (w.heap.size + 1) (.string v.o) (.string v.nm) (.int .i64 v.n) (.slice v.A v.ll v.cap) (.int .i64 v.p) ∧ Box W2 w.heap.size (.string ⟨#[]⟩) (.string ⟨#[]⟩) (.int .i64 0) (.slice none 0 0) (.int .i64 0) ∧ XO W2 (w.heap.size + 1) r.1 v.c ∧ Fx (X2 xb rb) w W2 ∧ w.heap.size < (w.heap.size + 1)) ⟨hm.fl _ (fun k cs e hk h1 h2 => setL_heap (by rintro rfl; exact h2 (blk_typ h1 hway.out)) [_, _, _, _, _] wA 0) (fun k hk => setL_heap (by omega) [_, _, _, _, _] wA 0) (by simp), hway.out.set5 _ _ _ _ _, (HX0.out wA hm.fx).far5 (by omega) _ _ _ _ _, (hm.x.set5 (by simp) _ _ _ _ _).mono (by simp), ((Fx.of HB1.out).trans hm.fx).set5 (by omega) _ _ _ _ _, by omega⟩ ?_
    rintro W2 ⟨hfl, hB3, hB0, hXO, hF, hq3⟩
    refine hfl.mono ?_
    rintro e w4 ⟨rfl, hM, hF4⟩
    have hB3' := hB3.fxb hF4 (HN.out _ (by omega))
    have hB0' := hB0.fxb hF4 (HN.out _ (by omega))
    have HXO := Lib.hid (hXO.fx hF4 (fun k hk => by have := x2_lt hk hx hrb; omega))
    have HF := Lib.hid (hF.trans hF4)
    have HM := Lib.hid hM
    obtain ⟨d0, d1, d2, d3, d4⟩ := hB3'.cells
    obtain ⟨y0, y1, y2, y3, y4⟩ := hB0'.frozen
    obtain ⟨a0, a1, a2, a3, a4⟩ := hB0'.cells
    have hl4 := hB0'.lt
    have hl5 := hB3'.lt
    have HB0' := Lib.hid hB0'
    clear hfl hB3 hB0 hXO hF hM hF4 hB3' hB0' hway
    go_wp2
    obtain ⟨m0, m1, m2, m3, m4⟩ := (HB0'.out.set5 (.string v.o) (.string v.nm) (.int .i64 v.n) (.slice v.A v.ll v.cap) (.int .i64 v.p)).cells
    refine bodyPost_ret (v := .agg #[.string v.o, .string v.nm, .int .i64 v.n, .slice v.A v.ll v.cap, .int .i64 v.p]) (by simp [results, Tryz.results240, go_sem, m0, m1, m2, m3, m4]) rfl ⟨v, rfl, ?_, ?_, ?_⟩
    · exact HXO.out.set5 (by omega) _ _ _ _ _
    · exact HM.out.set5 HB0'.out (by omega) _ _ _ _ _
    · exact HF.out.set5 (Nat.le_refl _) _ _ _ _ _
/-- Only blocks of expressions have been touched. -/
structure Kk (b : Nat) (w w' : World) : Prop where
  kt : Kt b (fun e => e = 62) w w'
  lo : ∀ k : Nat, k < b → w'.heap[k]? = w.heap[k]?
  sz : w.heap.size ≤ w'.heap.size
theorem Kk.all {w w' : World} (h : Kk b w w') {k : Nat} {cs : Array Value} {e : TypeId} (hk : w.heap[k]? = some (.cells cs e (0, 0))) (he : e ≠ 62) : w'.heap[k]? = w.heap[k]? := by
  rcases Nat.lt_or_ge k b with hlt | hge
  · exact h.lo k hlt
  · exact h.kt k cs e hge hk he
theorem rdt_ne {e : TypeId} (h : RdT e) : e ≠ 62 := by rcases h with rfl | rfl | rfl | rfl <;> decide
theorem MRd.kk {w w' : World} (h : MRd w xb rb b D st) (hk : Kk b w w') : MRd w' xb rb b D st := h.keep (fun _ _ _ h1 h2 => hk.all h1 (rdt_ne h2)) hk.lo hk.sz
theorem MR0.kk {w w' : World} (h : MR0 w xb rb b D) (hk : Kk b w w') : MR0 w' xb rb b D :=
  ⟨(hk.all h.blk (by decide)).trans h.blk, glob_keep h.glob (hk.lo 0 h.lo.2) (hk.lo 3 h.lo.1), h.d1, h.d64, h.lo, h.hx, Nat.lt_of_lt_of_le h.hr hk.sz⟩
theorem AtE.kk {w w' : World} {eb : Nat} {p c : Int} (h : AtE w eb p c) (hk : Kk b w w') : AtE w' eb p c := by
  obtain ⟨cs, h1⟩ := h.typ
  exact h.keep (hk.all h1 (by decide))
theorem MRd.fr {us : List Tok} {w w' : World} (h : MRd w xb rb b D (.good us)) (hF : Fr w.heap.size rb w w') : MR0 w' xb rb b D ∧ w'.cell? ⟨xb, 0, none⟩ = some (.pointer (some ⟨rb, 0, none⟩)) ∧ w'.cell? ⟨xb, 1, none⟩ = some (.int .i64 (D : Int)) := by
  have hT : TR w rb us := h.tr
  have h0 := h.mr0
  have hne : xb ≠ rb := by
    rintro rfl
    obtain ⟨ts', k', _, g, cap, q1, _⟩ := hT.rd
    rw [show w.heap[xb]? = _ from h0.blk] at q1
    injection q1 with q1
    injection q1 with _ q1
    exact absurd q1 (by decide)
  have hb : Bx w' xb 164 _ := (hF.block xb h.ltx hne).trans h0.blk
  have hG : GlobS w' := glob_keep h.glob (hF.block 0 (by have := h.lo; have := h.hx; have := h.ltx; omega) (by have := h.lo; have := h.hx; omega)) (hF.block 3 (by have := h.lo; have := h.hx; have := h.ltx; omega) (by have := h.lo; have := h.hx; omega))
  exact ⟨⟨hb, hG, h.d1, h.d64, h.lo, h.hx, Nat.lt_of_lt_of_le h.hr hF.size⟩, hb.cell 0, hb.cell 1⟩
theorem MR0.good {r : List Tok} {w : World} (h : MR0 w xb rb b D) (hT : TR w rb r) : MRd w xb rb b D (.good r) := ⟨⟨_, h.blk, rfl⟩, hT, h.glob, h.d1, h.d64, h.lo, h.hx, h.hr⟩
theorem mexpr_any (w : World) (h : MRd w xb rb b D st) : Calls Tryz.prog 240 #[.pointer (some ⟨xb, 0, none⟩)] w (EmP xb rb b D (st.expr D) w) := by
  obtain ⟨v, c0, c1, _⟩ := h.cells
  refine mexpr_gen w c0 c1 h.ltx h.hr h.hx.1 ?_
  intro W hW
  have hM := h.below hW
  cases st with
  | bad c p =>
    obtain ⟨v', c0', c1', _⟩ := hM.cells
    refine (read_nil (D : Int) W ⟨by have := h.d1; omega, by have := h.d64; omega⟩).mono ?_
    rintro e w' ⟨rfl, hb⟩
    exact ⟨xv0, _, rfl, ⟨rfl, Fx.of hb, fun w'' h1 h2 h3 => mfail_bad w'' ((hM.below hb).kk ⟨h1, h2, h3⟩) _ _⟩, (hM.below hb).cells.choose_spec.1, (hM.below hb).cells.choose_spec.2.1⟩
  | good us =>
    refine (read_any W hM.tr h.d1 h.d64).mono ?_
    intro e w' hp
    have he : (St.good us).expr D = exprP ((dp D).c us) := rfl
    rw [he]
    cases hres : (dp D).c us with
    | ok x r =>
      rw [hres] at hp
      obtain ⟨o, nm, n, A, l, cap, p, rfl, hC, hT, hF⟩ := hp
      obtain ⟨h0, q0, q1⟩ := hM.fr hF
      exact ⟨⟨o, nm, n, A, l, cap, p⟩, _, rfl, ⟨HS.wide (fun k _ hk => hk.1) hC, Fx.ofFr hF, fun w'' h1 h2 h3 => mfail_nil w'' ((h0.good hT).kk ⟨h1, h2, h3⟩)⟩, q0, q1⟩
    | er c q =>
      rw [hres] at hp
      obtain ⟨eb, rfl, _, hA, hF⟩ := hp
      obtain ⟨h0, q0, q1⟩ := hM.fr hF
      exact ⟨xv0, _, rfl, ⟨rfl, Fx.ofFr hF, fun w'' h1 h2 h3 => mfail_good w'' (h0.kk ⟨h1, h2, h3⟩) (hA.kk ⟨h1, h2, h3⟩)⟩, q0, q1⟩
end
end Go.Proofs.YtddeplbgihcdkaaGreatDoor
