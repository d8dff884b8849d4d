/-
  Whether another part of a list comes: walked.
-/
import Derived.Test.YtddeplbgihcdkaaGreatDoorG9
namespace Go.Proofs.YtddeplbgihcdkaaGreatDoor
open Go.RowKit

section
variable {xb rb b D : Nat} {st : St}
def CapS (w : World) (xb rb p q : Nat) (x : ByteArray) : Prop := w.cell? ⟨p, 0, none⟩ = some (.pointer (some ⟨xb, 0, none⟩)) ∧ w.cell? ⟨q, 0, none⟩ = some (.string x) ∧ ¬ X2 xb rb p ∧ ¬ X2 xb rb q
theorem CapS.fx {w w' : World} {p q : Nat} {x : ByteArray} (h : CapS w xb rb p q x) (hf : Fx (X2 xb rb) w w') : CapS w' xb rb p q x :=
  ⟨(World.cell?_of_block (w := w) (hf.block p (World.block_lt_of_cell? w _ h.1) h.2.2.1)).trans h.1, (World.cell?_of_block (w := w) (hf.block q (World.block_lt_of_cell? w _ h.2.1) h.2.2.2)).trans h.2.1, h.2.2.1, h.2.2.2⟩
theorem tl_ptr (st : St) (rb : Nat) : st.tl.ptr rb = st.ptr rb := by cases st <;> rfl
set_option maxHeartbeats 1000000 in
theorem mskipc_yes (w : World) (h : MRd w xb rb b D st) {p q : Nat} (x : ByteArray) (hc : CapS w xb rb p q x) (hi : isT st.hd x.data.toList = true) :
    Calls Tryz.prog 210 #[.pointer (some ⟨p, 0, none⟩), .pointer (some ⟨q, 0, none⟩)] w fun e w' => e = .returned (.bool true) ∧ MRd w' xb rb b D st.tl ∧ Fx (X2 xb rb) w w' := by
  have hx := h.ltx
  obtain ⟨hp, hq, _, _⟩ := id hc
  have hpl := World.block_lt_of_cell? w _ hp
  have hql := World.block_lt_of_cell? w _ hq
  have c0 := h.c0
  have HS := Lib.hid (h.drew.skip_yes x hi)
  have HC := Lib.hid (fun (wA : World) (hf : Fx (X2 xb rb) w.drew wA) => (show CapS w.drew xb rb p q x from hc).fx hf)
  clear h hi hc
  go_enter Tryz.func210, Tryz.ntmps210
  go_wp2_with fail
  go_region_held3 (fun w' => w'.cell? ⟨p, 0, none⟩ = some (.pointer (some ⟨xb, 0, none⟩)) ∧ w'.cell? ⟨q, 0, none⟩ = some (.string x) ∧ w'.cell? ⟨xb, 0, none⟩ = some (.pointer (st.ptr rb))) (first | with_reducible exact lk | go_keep) (first
    | (go_at_call 120; (with_reducible refine (HS.out).mono ?_); rintro e wA ⟨rfl, hM, hF⟩; have lk := HC.out wA hF; have lk := And.intro lk.1 (And.intro lk.2.1 (hM.c0.trans (by rw [tl_ptr])))))
  all_goals go_wp2
  all_goals go_ret
  all_goals exact ⟨rfl, hM, (Fx.of (Below.refl _ _).drew).trans hF⟩
set_option maxHeartbeats 1000000 in
theorem mskipc_no (w : World) (h : MRd w xb rb b D st) {p q : Nat} (x : ByteArray) (hc : CapS w xb rb p q x) (hi : isT st.hd x.data.toList = false) :
    Calls Tryz.prog 210 #[.pointer (some ⟨p, 0, none⟩), .pointer (some ⟨q, 0, none⟩)] w fun e w' => e = .returned (.bool false) ∧ Below w.heap.size w w' := by
  have hx := h.ltx
  obtain ⟨hp, hq, _, _⟩ := hc
  have hpl := World.block_lt_of_cell? w _ hp
  have hql := World.block_lt_of_cell? w _ hq
  have c0 := h.c0
  have HS := Lib.hid (h.drew.skip_no x hi)
  clear h hi
  go_enter Tryz.func210, Tryz.ntmps210
  go_wp2_with fail
  go_region_held3 (fun w' => w'.cell? ⟨p, 0, none⟩ = some (.pointer (some ⟨xb, 0, none⟩)) ∧ w'.cell? ⟨q, 0, none⟩ = some (.string x) ∧ w'.cell? ⟨xb, 0, none⟩ = some (.pointer (st.ptr rb))) (first | with_reducible exact lk | go_keep) (first
    | (go_at_call 120; (with_reducible refine (HS.out).mono ?_); rintro e wA ⟨rfl, hF⟩; have lk := And.intro ((hF.cell hpl).trans hp) (And.intro ((hF.cell hql).trans hq) ((hF.cell hx).trans c0))))
  all_goals go_wp2
  all_goals go_ret
  all_goals exact ⟨rfl, (Below.refl w.heap.size w).drew.trans hF⟩
theorem mskips_any (w : World) (h : MRd w xb rb b D st) (x : ByteArray) : Calls Tryz.prog 176 #[.pointer (some ⟨xb, 0, none⟩), .string x] w fun e w' => ∃ p q, e = .returned (.func (.func 210) #[] #[.pointer (some ⟨p, 0, none⟩), .pointer (some ⟨q, 0, none⟩)]) ∧ CapS w' xb rb p q x ∧ w.heap.size ≤ p ∧ w.heap.size ≤ q ∧ p < w'.heap.size ∧ q < w'.heap.size ∧ Below w.heap.size w w' := by
  have HN := Lib.hid h.nx
  clear h
  go_enter Tryz.func176, Tryz.ntmps176
  go_wp2
  go_ret
  exact ⟨w.heap.size, w.heap.size + 1, rfl, ⟨by simp, by simp, HN.out _ (Nat.le_refl _), HN.out _ (by omega)⟩, Nat.le_refl _, by omega, by simp; omega, by simp, ((Below.refl _ _).alloc (Nat.le_refl _) _).alloc (by simp) _⟩
theorem miscom_any (w : World) (h : MRd w xb rb b D st) : Calls Tryz.prog 218 #[.pointer (some ⟨xb, 0, none⟩)] w fun e w' => e = .returned (.bool (isT st.hd [91])) ∧ Below w.heap.size w w' := by
  have hx := h.ltx
  have c0 := h.c0
  have HI := Lib.hid (h.is_ ⟨#[91]⟩)
  clear h
  go_enter Tryz.func218, Tryz.ntmps218
  go_wp2_with fail
  with_reducible refine (HI.out).mono ?_
  rintro e w1 ⟨rfl, hb⟩
  go_wp2
  go_ret
  exact ⟨rfl, hb⟩
end
end Go.Proofs.YtddeplbgihcdkaaGreatDoor
