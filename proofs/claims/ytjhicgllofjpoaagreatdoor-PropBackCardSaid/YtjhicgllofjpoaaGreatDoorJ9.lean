/-
  What a reader of formulas does: fail, refuse, want, isEnd, sign, walked.
-/
import Derived.Test.YtjhicgllofjpoaaGreatDoorJ3
import Derived.Test.YtjhicgllofjpoaaGreatDoorJ8
import Derived.Test.YtjhicgllofjpoaaGreatDoorJ4
namespace Go.Proofs.YtjhicgllofjpoaaGreatDoor
open Go.RowKit

def PU (xb rb b D : Nat) (st : St) (w : World) (e : Ending) (w' : World) : Prop := e = .returned (.tuple #[]) ∧ PRd w' xb rb b D st ∧ Fx (X2 xb rb) w w'
section
variable {xb rb b D : Nat} {st : St}
theorem PU.of {st' : St} {w w1 w' : World} {e : Ending} (h : PU xb rb b D st' w1 e w') (k : Fx (X2 xb rb) w w1) : PU xb rb b D st' w e w' := ⟨h.1, h.2.1, k.trans h.2.2⟩
/-- The tokens are let go, the error is kept. -/
theorem PRd.failed {us : List Tok} {w : World} {c p : Nat} (h : PRd w xb rb b D (.good us)) :
    PRd (((w.setCell ⟨xb, 0, none⟩ (.pointer none)).setCell ⟨xb, 2, none⟩ (.iface 79 (.pointer (some ⟨w.heap.size, 0, none⟩)))).alloc (.cells #[.int .i64 (p : Int), .iface 76 (.int .i64 (c : Int))] 82)) xb rb b D (.bad c p) ∧ Fx (X2 xb rb) w (((w.setCell ⟨xb, 0, none⟩ (.pointer none)).setCell ⟨xb, 2, none⟩ (.iface 79 (.pointer (some ⟨w.heap.size, 0, none⟩)))).alloc (.cells #[.int .i64 (p : Int), .iface 76 (.int .i64 (c : Int))] 82)) := by
  obtain ⟨v, hb, hv⟩ := h.blk
  refine ⟨?_, (((Fx.refl _ _).setCell (p := ⟨xb, 0, none⟩) (.inr (.inl rfl)) _).setCell (p := ⟨xb, 2, none⟩) (.inr (.inl rfl)) _).alloc _⟩
  have h2 := ((hb.set 0 (.pointer none)).set 2 (.iface 79 (.pointer (some ⟨w.heap.size, 0, none⟩)))).alloc (.cells #[.int .i64 (p : Int), .iface 76 (.int .i64 (c : Int))] 82)
  have hg : ∀ k, k < b → (((w.setCell ⟨xb, 0, none⟩ (.pointer none)).setCell ⟨xb, 2, none⟩ (.iface 79 (.pointer (some ⟨w.heap.size, 0, none⟩)))).alloc (.cells #[.int .i64 (p : Int), .iface 76 (.int .i64 (c : Int))] 82)).heap[k]? = w.heap[k]? := fun k hk => (Below.heap_alloc _ _ k (by simp; have := h.hx; have := h.ltx; omega)).trans ((Below.heap_setCell _ ⟨xb, 2, none⟩ _ k (by show k ≠ xb; have := h.hx; omega)).trans (Below.heap_setCell w ⟨xb, 0, none⟩ _ k (by show k ≠ xb; have := h.hx; omega)))
  exact ⟨⟨_, h2, w.heap.size, rfl, AtE.new (by simp) _ _⟩, trivial, glob_keep h.glob (hg 0 h.lo.2) (hg 2 h.lo.1), h.d64, h.lo, h.hx, by simpa using Nat.lt_succ_of_lt h.hr⟩
theorem pfail_bad {c c' p : Nat} (w : World) (h : PRd w xb rb b D (.bad c' p)) : Calls Tryz.prog 67 #[.pointer (some ⟨xb, 0, none⟩), .iface 76 (.int .i64 (c : Int))] w (PU xb rb b D (.bad c' p) w) := by
  obtain ⟨v, c0, c1, c2, z0, z2, eb, rfl, hA⟩ := h.cells
  have hx := h.ltx
  have H := Lib.hid h
  clear h hA
  go_enter Tryz.func67, Tryz.ntmps67
  go_wp2
  exact bodyPost_ret (v := .tuple #[]) (results_none rfl _ _ _) rfl ⟨rfl, H.out, Fx.refl _ _⟩
set_option maxHeartbeats 1000000 in
theorem pfail_good {us : List Tok} {c : Nat} (w : World) (h : PRd w xb rb b D (.good us)) : Calls Tryz.prog 67 #[.pointer (some ⟨xb, 0, none⟩), .iface 76 (.int .i64 (c : Int))] w (PU xb rb b D (.bad c (hd us).pos) w) := by
  obtain ⟨v, c0, c1, c2, z0, z2, hv⟩ := h.cells
  obtain rfl : v = .nilIface := hv
  have hx := h.ltx
  have H := Lib.hid h
  have HP := Lib.hid h.peek
  have hf0 := field0
  have hf1 := field1
  have hf2 := field2
  clear h
  simp only [St.ptr, St.hd] at c0 HP
  go_enter Tryz.func67, Tryz.ntmps67
  go_wp2_with fail
  with_reducible refine (HP.out).mono ?_
  rintro e w1 ⟨rfl, hb1⟩
  have HF1 := Lib.hid (Fx.of (X := X2 xb rb) hb1)
  have HQ := Lib.hid ((H.out.below hb1).failed (c := c) (p := (hd us).pos))
  have hx1 := (H.out.below hb1).ltx
  obtain ⟨v', c0, c1, c2, z0, z2, _⟩ := (H.out.below hb1).cells
  simp only [St.ptr] at c0
  clear hb1
  go_wp2
  exact bodyPost_ret (v := .tuple #[]) (results_none rfl _ _ _) rfl ⟨rfl, HQ.out.1, HF1.out.trans HQ.out.2⟩
theorem pfail_any (c : Nat) (w : World) (h : PRd w xb rb b D st) : Calls Tryz.prog 67 #[.pointer (some ⟨xb, 0, none⟩), .iface 76 (.int .i64 (c : Int))] w (PU xb rb b D (st.fail c) w) := by
  cases st with
  | bad c' p => exact pfail_bad w h
  | good us => exact pfail_good w h
theorem prefuse_any (w : World) (h : PRd w xb rb b D st) : Calls Tryz.prog 45 #[.pointer (some ⟨xb, 0, none⟩)] w (PU xb rb b D (st.fail 20) w) := by
  have H := Lib.hid (pfail_any 20 w h)
  clear h
  go_enter Tryz.func45, Tryz.ntmps45
  go_wp2_with fail
  refine (H.out).mono ?_
  rintro e w1 ⟨rfl, hM, hF⟩
  go_wp2
  go_end0
  exact ⟨rfl, hM, hF⟩
set_option maxHeartbeats 1000000 in
theorem pwant_any (x : ByteArray) (w : World) (h : PRd w xb rb b D st) : Calls Tryz.prog 86 #[.pointer (some ⟨xb, 0, none⟩), .string x] w (PU xb rb b D (st.want x.data.toList) w) := by
  have hx := h.ltx
  have c0 := h.c0
  cases hi : isT st.hd x.data.toList with
  | true =>
    have H1 := Lib.hid (h.skip_yes x hi)
    rw [show st.want x.data.toList = st.tl by unfold St.want; rw [if_pos hi]]
    clear h hi
    go_enter Tryz.func86, Tryz.ntmps86
    go_wp2_with fail
    with_reducible refine (H1.out).mono ?_
    rintro e w1 ⟨rfl, hM, hF⟩
    go_wp2
    go_end0
    exact ⟨rfl, hM, hF⟩
  | false =>
    have H1 := Lib.hid (h.skip_no x hi)
    have H := Lib.hid h
    rw [show st.want x.data.toList = st.fail 20 by unfold St.want; rw [if_neg (by rw [hi]; simp)]]
    clear h hi
    go_enter Tryz.func86, Tryz.ntmps86
    go_wp2_with fail
    with_reducible refine (H1.out).mono ?_
    rintro e w1 ⟨rfl, hb1⟩
    have HB := Lib.hid hb1
    clear hb1
    go_wp2_with fail
    refine (prefuse_any w1 (H.out.below HB.out)).mono ?_
    rintro e w2 ⟨rfl, hM, hF⟩
    go_wp2
    go_end0
    exact ⟨rfl, hM, (Fx.of HB.out).trans hF⟩
theorem pisend_any (w : World) (h : PRd w xb rb b D st) : Calls Tryz.prog 44 #[.pointer (some ⟨xb, 0, none⟩)] w fun e w' => e = .returned (.bool (decide (st.hd.kind = 0))) ∧ Below w.heap.size w w' := by
  have hx := h.ltx
  have c0 := h.c0
  have HP := Lib.hid h.peek
  have hf0 := field0
  have hf1 := field1
  have hf2 := field2
  clear h
  go_enter Tryz.func44, Tryz.ntmps44
  go_wp2_with fail
  with_reducible refine (HP.out).mono ?_
  rintro e w1 ⟨rfl, hb1⟩
  go_wp2
  go_ret
  have HR : (((st.hd.kind : Nat) : Int) == 0) = decide (st.hd.kind = 0) := by rw [Bool.eq_iff_iff]; simp
  exact ⟨by rw [← HR]; rfl, hb1⟩
set_option maxHeartbeats 1000000 in
theorem psign_yes {k : Nat} (w : World) (h : PRd w xb rb b D st) (hs : sp k st.hd = true) : Calls Tryz.prog 68 #[.pointer (some ⟨xb, 0, none⟩), .int .i64 (k : Int)] w fun e w' => e = .returned (.tuple #[.string ⟨st.hd.text.toArray⟩, .bool true]) ∧ PRd w' xb rb b D st.tl ∧ Fx (X2 xb rb) w w' := by
  have hx := h.ltx
  have c0 := h.c0
  have HP := Lib.hid h.peek
  have HK := Lib.hid (prank_any ⟨st.hd.text.toArray⟩)
  have hk : pk st.hd.text = k := (sp_kind hs).2
  have hi : isT st.hd (⟨st.hd.text.toArray⟩ : ByteArray).data.toList = true := by
    simp only [sp, Bool.and_eq_true] at hs
    simp only [isT, hs.1, Bool.true_and]
    simp
  have HS := Lib.hid (fun (W : World) (hb : Below w.heap.size w W) => (h.below hb).skip_yes ⟨st.hd.text.toArray⟩ hi)
  have HC := Lib.hid (fun (W : World) (hb : Below w.heap.size w W) => (⟨(h.below hb).c0, (h.below hb).ltx⟩ : W.cell? ⟨xb, 0, none⟩ = some (.pointer (st.ptr rb)) ∧ xb < W.heap.size))
  unfold PkP at HK
  rw [show (⟨st.hd.text.toArray⟩ : ByteArray).data.toList = st.hd.text from rfl, hk] at HK
  have g1 : (((k : Nat) : Int) != (k : Int)) = false := by simp
  have hf0 := field0
  have hf1 := field1
  have hf2 := field2
  clear h hs hi hk
  go_enter Tryz.func68, Tryz.ntmps68
  go_wp2_with fail
  with_reducible refine (HP.out).mono ?_
  rintro e w1 ⟨rfl, hb1⟩
  have HB := Lib.hid hb1
  obtain ⟨c0, hx1⟩ := HC.out w1 hb1
  clear hb1
  go_wp2_with fail
  with_reducible refine (HK.out _).mono ?_
  rintro e w2 ⟨rfl, rfl⟩
  go_wp2_with fail
  with_reducible refine (HS.out _ HB.out).mono ?_
  rintro e w3 ⟨rfl, hM, hF⟩
  have HM := Lib.hid hM
  have HF := Lib.hid ((Fx.of (X := X2 xb rb) HB.out).trans hF)
  clear hM hF
  go_wp2
  go_ret2
  exact ⟨rfl, HM.out, HF.out⟩
set_option maxHeartbeats 1000000 in
theorem psign_no {k : Nat} (w : World) (h : PRd w xb rb b D st) (hs : sp k st.hd = false) : Calls Tryz.prog 68 #[.pointer (some ⟨xb, 0, none⟩), .int .i64 (k : Int)] w fun e w' => e = .returned (.tuple #[.string ⟨#[]⟩, .bool false]) ∧ Below w.heap.size w w' := by
  have hx := h.ltx
  have c0 := h.c0
  have HP := Lib.hid h.peek
  have HK := Lib.hid (prank_any ⟨st.hd.text.toArray⟩)
  unfold PkP at HK
  rw [show (⟨st.hd.text.toArray⟩ : ByteArray).data.toList = st.hd.text from rfl] at HK
  have hf0 := field0
  have hf1 := field1
  have hf2 := field2
  by_cases hk : pk st.hd.text = k
  · have hi : isT st.hd (⟨st.hd.text.toArray⟩ : ByteArray).data.toList = false := by
      simp only [sp, hk, beq_self_eq_true, Bool.and_true] at hs
      simp only [isT, hs, Bool.false_and]
    have HS := Lib.hid (fun (W : World) (hb : Below w.heap.size w W) => (h.below hb).skip_no ⟨st.hd.text.toArray⟩ hi)
    have HC := Lib.hid (fun (W : World) (hb : Below w.heap.size w W) => (⟨(h.below hb).c0, (h.below hb).ltx⟩ : W.cell? ⟨xb, 0, none⟩ = some (.pointer (st.ptr rb)) ∧ xb < W.heap.size))
    rw [hk] at HK
    have g1 : (((k : Nat) : Int) != (k : Int)) = false := by simp
    clear h hs hi hk
    go_enter Tryz.func68, Tryz.ntmps68
    go_wp2_with fail
    with_reducible refine (HP.out).mono ?_
    rintro e w1 ⟨rfl, hb1⟩
    have HB := Lib.hid hb1
    obtain ⟨c0, hx1⟩ := HC.out w1 hb1
    clear hb1
    go_wp2_with fail
    with_reducible refine (HK.out _).mono ?_
    rintro e w2 ⟨rfl, rfl⟩
    go_wp2_with fail
    with_reducible refine (HS.out _ HB.out).mono ?_
    rintro e w3 ⟨rfl, hb3⟩
    have HB3 := Lib.hid (HB.out.trans (hb3.mono HB.out.size))
    clear hb3
    go_wp2
    go_ret2
    exact ⟨rfl, HB3.out⟩
  · have g1 : (((pk st.hd.text : Nat) : Int) != (k : Int)) = true := by rw [bne_iff_ne]; omega
    clear h hs hk
    go_enter Tryz.func68, Tryz.ntmps68
    go_wp2_with fail
    with_reducible refine (HP.out).mono ?_
    rintro e w1 ⟨rfl, hb1⟩
    have HB := Lib.hid hb1
    clear hb1
    go_wp2_with fail
    with_reducible refine (HK.out _).mono ?_
    rintro e w2 ⟨rfl, rfl⟩
    go_wp2
    go_ret2
    exact ⟨rfl, HB.out⟩
end
end Go.Proofs.YtjhicgllofjpoaaGreatDoor
