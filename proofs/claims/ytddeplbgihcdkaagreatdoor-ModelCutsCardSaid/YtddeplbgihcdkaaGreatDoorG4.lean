/-
  Names, texts and expressions of a reader of models, walked; expressions in memory.
-/
import Derived.Test.YtddeplbgihcdkaaGreatDoorG3
import Derived.Deep.RegionHeld3
import Derived.BigQuiet
namespace Go.Proofs.YtddeplbgihcdkaaGreatDoor
open Go.RowKit

def XV.c (v : XV) : List Value := exC v.o v.nm v.n v.A v.ll v.cap v.p
def xv0 : XV := ⟨⟨#[]⟩, ⟨#[]⟩, 0, none, 0, 0, 0⟩
theorem Arr.keepY {w w' : World} {e : TypeId} {S : Nat → Prop} {g : Nat} {xs : List Value} (h : Arr w e S g xs) (hk : ∀ (k : Nat) (cs : Array Value), S k → w.heap[k]? = some (.cells cs e (0, 0)) → w'.heap[k]? = w.heap[k]?) : Arr w' e S g xs := by
  obtain ⟨h2, cs, h3, h4⟩ := h
  exact ⟨h2, cs, (hk _ _ h2 h3).trans h3, h4⟩
theorem HS.keepY {w w' : World} {e : TypeId} {S : Nat → Prop} (hk : ∀ (k : Nat) (cs : Array Value), S k → w.heap[k]? = some (.cells cs e (0, 0)) → w'.heap[k]? = w.heap[k]?) : ∀ {x : Ex} {c : List Value}, HS w e S x c → HS w' e S x c
  | .leaf _ _ _ _, _, h => h
  | .un _ _ _, _, ⟨ad, cap, ca, h1, h2, h3⟩ => ⟨ad, cap, ca, h1, h2.keepY hk, HS.keepY hk h3⟩
  | .bin _ _ _ _, _, ⟨ad, cap, ca, cb, h1, h2, h3, h4⟩ => ⟨ad, cap, ca, cb, h1, h2.keepY hk, HS.keepY hk h3, HS.keepY hk h4⟩
  | .cond _ _ _ _, _, ⟨ad, cap, ca, cb, cd, h1, h2, h3, h4, h5⟩ => ⟨ad, cap, ca, cb, cd, h1, h2.keepY hk, HS.keepY hk h3, HS.keepY hk h4, HS.keepY hk h5⟩
/-- From b on, all blocks but those of some types are as they were. -/
def Kt (b : Nat) (E : TypeId → Prop) (w w' : World) : Prop := ∀ (k : Nat) (cs : Array Value) (e : TypeId), b ≤ k → w.heap[k]? = some (.cells cs e (0, 0)) → ¬ E e → w'.heap[k]? = w.heap[k]?
def E0 (_ : TypeId) : Prop := False
section
variable {b b' : Nat} {E : TypeId → Prop} {w w' : World}
theorem Kt.mono (h : Kt b E w w') (hb : b ≤ b') : Kt b' E w w' := fun k cs e hk h1 h2 => h k cs e (Nat.le_trans hb hk) h1 h2
theorem Kt.below (h : Below w.heap.size w w') : Kt b E w w' := fun k _ _ _ h1 _ => h.block k (blk_lt h1)
theorem Kt.fx {X : Nat → Prop} (h : Fx X w w') (hx : ∀ k, X k → k < b) : Kt b E w w' := fun k _ _ hk h1 _ => h.block k (blk_lt h1) (fun e => absurd (hx k e) (by omega))
theorem Kt.setL {q i : Nat} {us : List Value} (hq : q < b) : Kt b E w (Go.Proofs.YtddeplbgihcdkaaGreatDoor.setL w q i us) := fun k _ _ hk _ _ => setL_heap (by omega) us w i
theorem Kt.set {q i : Nat} {u : Value} (hq : q < b) : Kt b E w (w.setCell ⟨q, i, none⟩ u) := fun k _ _ hk _ _ => Below.heap_setCell w ⟨q, i, none⟩ u k (by show k ≠ q; omega)
theorem Kt.grown {row : Option Nat} {t : TypeId} (hg : w.grownBy w' row) (hr : ∀ g, row = some g → ∃ cs : Array Value, w.heap[g]? = some (.cells cs t (0, 0))) : Kt b (fun e => e = t) w w' := by
  intro k cs e hk h1 h2
  refine hg.block k (blk_lt h1) (fun e1 => ?_)
  obtain ⟨cs', h3⟩ := hr k e1.symm
  rw [h1] at h3
  injection h3 with h3
  injection h3 with _ h3
  exact h2 h3
end
/-- An expression in memory from b on, or none. -/
def XO (w : World) (b : Nat) : Option Ex → List Value → Prop
  | some x, c => HS w 62 (fun k => b ≤ k) x c
  | none, c => c = xv0.c
section
variable {b b' : Nat} {E : TypeId → Prop} {w w' : World} {o : Option Ex} {c : List Value}
theorem XO.keep (h : XO w b o c) (hk : Kt b E w w') (he : ¬ E 62) : XO w' b o c := by
  cases o with
  | none => exact h
  | some x => exact HS.keepY (fun k cs hb hc => hk k cs 62 hb hc he) (show HS w 62 (fun k => b ≤ k) x c from h)
theorem XO.mono (h : XO w b o c) (hb : b' ≤ b) : XO w b' o c := by
  cases o with
  | none => exact h
  | some x => exact HS.wide (fun k _ hk => Nat.le_trans hb hk) (show HS w 62 (fun k => b ≤ k) x c from h)
theorem XO.below (h : XO w b o c) (hb : Below w.heap.size w w') : XO w' b o c := h.keep (E := E0) (Kt.below hb) id
theorem XO.alloc (h : XO w b o c) (ob : Obj) : XO (w.alloc ob) b o c := h.below ((Below.refl _ _).alloc (Nat.le_refl _) _)
theorem XO.fx {X : Nat → Prop} (h : XO w b o c) (hf : Fx X w w') (hx : ∀ k, X k → k < b) : XO w' b o c := h.keep (E := E0) (Kt.fx hf hx) id
theorem XO.setL {q i : Nat} {us : List Value} (h : XO w b o c) (hq : q < b) : XO (Go.Proofs.YtddeplbgihcdkaaGreatDoor.setL w q i us) b o c := h.keep (E := E0) (Kt.setL hq) id
end
section
variable {xb rb b D : Nat} {st : St}
theorem fail_hd (c : Nat) (st : St) : (st.fail c).hd = ⟨0, [], 0⟩ := by cases st <;> rfl
def NmP (xb rb b D : Nat) (r : (List UInt8 × Nat) × St) (w : World) (e : Ending) (w' : World) : Prop := e = .returned (.tuple #[.string ⟨r.1.1.toArray⟩, .int .i64 ((r.1.2 : Nat) : Int)]) ∧ MRd w' xb rb b D r.2 ∧ Fx (X2 xb rb) w w'
set_option maxHeartbeats 1000000 in
theorem mname_any (w : World) (h : MRd w xb rb b D st) : Calls Tryz.prog 211 #[.pointer (some ⟨xb, 0, none⟩)] w (NmP xb rb b D st.name w) := by
  have hx := h.ltx
  have H := Lib.hid h
  have H1 := Lib.hid (misname_any w h)
  cases hn : isNm st.hd with
  | true =>
    rw [hn] at H1
    have hk0 : st.hd.kind ≠ 0 := by rw [(nm_kind hn).1]; decide
    have HT := Lib.hid (fun (W : World) (hW : MRd W xb rb b D st) => hW.take_on hk0)
    rw [show st.name = ((st.hd.text, st.hd.pos), st.tl) by simp [St.name, hn]]
    clear h hn hk0
    go_enter Tryz.func211, Tryz.ntmps211
    go_wp2_with fail
    with_reducible refine (H1.out).mono ?_
    rintro e w1 ⟨rfl, hb1⟩
    have c0 := (H.out.below hb1).c0
    have hx1 := (H.out.below hb1).ltx
    have HB := Lib.hid hb1
    clear hb1
    go_wp2_with fail
    refine (HT.out _ (H.out.below HB.out)).mono ?_
    rintro e w2 ⟨rfl, hM, hF⟩
    have HM := Lib.hid hM
    have HF := Lib.hid hF
    clear hM hF
    go_wp2_with fail
    go_quiet (fail)
    go_wp2
    go_ret2
    exact ⟨rfl, (HM.out.alloc _).below (below_drewN (Below.refl _ _) _), (((Fx.of HB.out).trans HF.out).alloc _).on (below_drewN (Below.refl _ _) _)⟩
  | false =>
    rw [hn] at H1
    have HR := Lib.hid (fun (W : World) (hW : MRd W xb rb b D st) => mrefuse_any W hW)
    have HT := Lib.hid (fun (W : World) (hW : MRd W xb rb b D (st.fail 20)) => hW.take_end (by rw [fail_hd]))
    rw [show st.name = (([], 0), st.fail 20) by simp [St.name, hn]]
    rw [fail_hd] at HT
    clear h hn
    go_enter Tryz.func211, Tryz.ntmps211
    go_wp2_with fail
    with_reducible refine (H1.out).mono ?_
    rintro e w1 ⟨rfl, hb1⟩
    have HB := Lib.hid hb1
    clear hb1
    go_wp2_with fail
    refine (HR.out _ (H.out.below HB.out)).mono ?_
    rintro e w2 ⟨rfl, hM, hF⟩
    have c0 := hM.c0
    have hx1 := hM.ltx
    have HM := Lib.hid hM
    have HF := Lib.hid hF
    clear hM hF
    go_wp2_with fail
    refine (HT.out _ HM.out).mono ?_
    rintro e w3 ⟨rfl, hb3⟩
    have HB3 := Lib.hid hb3
    clear hb3
    go_wp2_with fail
    go_quiet (fail)
    go_wp2
    go_ret2
    exact ⟨rfl, ((HM.out.below HB3.out).alloc _).below (below_drewN (Below.refl _ _) _), (((((Fx.of HB.out).trans HF.out).on HB3.out)).alloc _).on (below_drewN (Below.refl _ _) _)⟩
set_option maxHeartbeats 1000000 in
theorem mtext_any (w : World) (h : MRd w xb rb b D st) : Calls Tryz.prog 213 #[.pointer (some ⟨xb, 0, none⟩)] w (NmP xb rb b D st.text w) := by
  have hx := h.ltx
  have c0 := h.c0
  have H := Lib.hid h
  have H1 := Lib.hid h.peek
  have hf0 := field0
  have hf1 := field1
  have hf2 := field2
  by_cases hn : st.hd.kind = 3
  · have g1 : (((st.hd.kind : Nat) : Int) != 3) = false := by rw [hn]; rfl
    have hk0 : st.hd.kind ≠ 0 := by rw [hn]; decide
    have HT := Lib.hid (fun (W : World) (hW : MRd W xb rb b D st) => hW.take_on hk0)
    rw [show st.text = ((st.hd.text, st.hd.pos), st.tl) by simp [St.text, hn]]
    clear h hn hk0
    go_enter Tryz.func213, Tryz.ntmps213
    go_wp2_with fail
    with_reducible refine (H1.out).mono ?_
    rintro e w1 ⟨rfl, hb1⟩
    have c1 := (H.out.below hb1).c0
    have hx1 := (H.out.below hb1).ltx
    have HB := Lib.hid hb1
    clear hb1
    go_wp2_with fail
    refine (HT.out _ (H.out.below HB.out)).mono ?_
    rintro e w2 ⟨rfl, hM, hF⟩
    have HM := Lib.hid hM
    have HF := Lib.hid hF
    clear hM hF
    go_wp2_with fail
    go_quiet (fail)
    go_wp2
    go_ret2
    exact ⟨rfl, (HM.out.alloc _).below (below_drewN (Below.refl _ _) _), (((Fx.of HB.out).trans HF.out).alloc _).on (below_drewN (Below.refl _ _) _)⟩
  · have g1 : (((st.hd.kind : Nat) : Int) != 3) = true := by rw [bne_iff_ne]; omega
    have HR := Lib.hid (fun (W : World) (hW : MRd W xb rb b D st) => mrefuse_any W hW)
    have HT := Lib.hid (fun (W : World) (hW : MRd W xb rb b D (st.fail 20)) => hW.take_end (by rw [fail_hd]))
    rw [show st.text = (([], 0), st.fail 20) by simp [St.text, hn]]
    rw [fail_hd] at HT
    clear h hn
    go_enter Tryz.func213, Tryz.ntmps213
    go_wp2_with fail
    with_reducible refine (H1.out).mono ?_
    rintro e w1 ⟨rfl, hb1⟩
    have HB := Lib.hid hb1
    clear hb1
    go_wp2_with fail
    refine (HR.out _ (H.out.below HB.out)).mono ?_
    rintro e w2 ⟨rfl, hM, hF⟩
    have c1 := hM.c0
    have hx1 := hM.ltx
    have HM := Lib.hid hM
    have HF := Lib.hid hF
    clear hM hF
    go_wp2_with fail
    refine (HT.out _ HM.out).mono ?_
    rintro e w3 ⟨rfl, hb3⟩
    have HB3 := Lib.hid hb3
    clear hb3
    go_wp2_with fail
    go_quiet (fail)
    go_wp2
    go_ret2
    exact ⟨rfl, ((HM.out.below HB3.out).alloc _).below (below_drewN (Below.refl _ _) _), (((((Fx.of HB.out).trans HF.out).on HB3.out)).alloc _).on (below_drewN (Below.refl _ _) _)⟩
end
end Go.Proofs.YtddeplbgihcdkaaGreatDoor
