/-
  What a reader of models does: fail, refuse, want, isWord, isName, name, text and expression, walked.
-/
import Derived.Test.YtddeplbgihcdkaaGreatDoorG2
namespace Go.Proofs.YtddeplbgihcdkaaGreatDoor
open Go.RowKit

/-- What a method without a result leaves. -/
def MU (xb rb b D : Nat) (st : St) (w : World) (e : Ending) (w' : World) : Prop := e = .returned (.tuple #[]) ∧ MRd w' xb rb b D st ∧ Fx (X2 xb rb) w w'
section
variable {xb rb b D : Nat} {st : St}
theorem mfail_nil (w : World) (h : MRd w xb rb b D st) : Calls Tryz.prog 174 #[.pointer (some ⟨xb, 0, none⟩), .nilIface] w (MU xb rb b D st w) := by
  have H := Lib.hid h
  clear h
  go_enter Tryz.func174, Tryz.ntmps174
  go_wp2
  exact bodyPost_ret (v := .tuple #[]) (results_none rfl _ _ _) rfl ⟨rfl, H.out, Fx.refl _ _⟩
theorem mfail_bad {c p : Nat} (w : World) (h : MRd w xb rb b D (.bad c p)) (t : TypeId) (u : Value) : Calls Tryz.prog 174 #[.pointer (some ⟨xb, 0, none⟩), .iface t u] w (MU xb rb b D (.bad c p) w) := by
  obtain ⟨v, c0, c1, c2, z0, z2, eb, rfl, hA⟩ := h.cells
  have hx := h.ltx
  have H := Lib.hid h
  clear h hA
  go_enter Tryz.func174, Tryz.ntmps174
  go_wp2
  exact bodyPost_ret (v := .tuple #[]) (results_none rfl _ _ _) rfl ⟨rfl, H.out, Fx.refl _ _⟩
/-- A reader that has not failed, wherever its tokens are. -/
structure MR0 (w : World) (xb rb b D : Nat) : Prop where
  blk : Bx w xb 164 [.pointer (some ⟨rb, 0, none⟩), .int .i64 (D : Int), .nilIface]
  glob : GlobS w
  d1 : 1 ≤ D
  d64 : D ≤ 64
  lo : 3 < b ∧ 0 < b
  hx : b ≤ xb ∧ b ≤ rb
  hr : rb < w.heap.size
theorem MRd.mr0 {us : List Tok} {w : World} (h : MRd w xb rb b D (.good us)) : MR0 w xb rb b D := by
  obtain ⟨v, h1, h2⟩ := h.blk
  obtain rfl : v = .nilIface := h2
  exact ⟨h1, h.glob, h.d1, h.d64, h.lo, h.hx, h.hr⟩
theorem mfail_good {c p eb : Nat} (w : World) (h : MR0 w xb rb b D) (hA : AtE w eb p c) : Calls Tryz.prog 174 #[.pointer (some ⟨xb, 0, none⟩), .iface 116 (.pointer (some ⟨eb, 0, none⟩))] w (MU xb rb b D (.bad c p) w) := by
  have hx := h.blk.lt
  have c0 := h.blk.cell 0
  have c2 := h.blk.cell 2
  have z0 := h.blk.frozen 0
  have z2 := h.blk.frozen 2
  simp only [List.getElem?_cons_zero, List.getElem?_cons_succ] at c0 c2
  have H := Lib.hid h
  have HA := Lib.hid hA
  clear h hA
  go_enter Tryz.func174, Tryz.ntmps174
  go_wp2
  refine bodyPost_ret (v := .tuple #[]) (results_none rfl _ _ _) rfl ⟨rfl, ?_, ((Fx.refl _ _).setCell (p := ⟨xb, 0, none⟩) (.inr (.inl rfl)) _).setCell (p := ⟨xb, 2, none⟩) (.inr (.inl rfl)) _⟩
  have hb := H.out.blk
  have hne : eb ≠ xb := by
    rintro rfl
    obtain ⟨cs, ht⟩ := HA.out.typ
    rw [show w.heap[eb]? = _ from hb] at ht
    injection ht with ht
    injection ht with _ ht
    exact absurd ht (by decide)
  have h2 := ((hb.set 0 (.pointer none)).set 2 (.iface 116 (.pointer (some ⟨eb, 0, none⟩))))
  have hg : ∀ k, k < b → ((w.setCell ⟨xb, 0, none⟩ (.pointer none)).setCell ⟨xb, 2, none⟩ (.iface 116 (.pointer (some ⟨eb, 0, none⟩)))).heap[k]? = w.heap[k]? := fun k hk => (Below.heap_setCell _ ⟨xb, 2, none⟩ _ k (by show k ≠ xb; have := H.out.hx; omega)).trans (Below.heap_setCell w ⟨xb, 0, none⟩ _ k (by show k ≠ xb; have := H.out.hx; omega))
  refine ⟨⟨_, h2, eb, rfl, (HA.out.far (a := ⟨xb, 0, none⟩) hne _).far (a := ⟨xb, 2, none⟩) hne _⟩, trivial, glob_keep H.out.glob (hg 0 H.out.lo.2) (hg 3 H.out.lo.1), H.out.d1, H.out.d64, H.out.lo, H.out.hx, by simpa using H.out.hr⟩

theorem MU.of {st' : St} {w w1 w' : World} {e : Ending} (h : MU xb rb b D st' w1 e w') (k : Fx (X2 xb rb) w w1) : MU xb rb b D st' w e w' := ⟨h.1, h.2.1, k.trans h.2.2⟩
set_option maxHeartbeats 1000000 in
theorem mwant_any (w : World) (h : MRd w xb rb b D st) (x : ByteArray) : Calls Tryz.prog 133 #[.pointer (some ⟨xb, 0, none⟩), .string x] w (MU xb rb b D (st.want x.data.toList) w) := by
  have hx := h.ltx
  have c0 := h.c0
  have H := Lib.hid h
  cases st with
  | bad c p =>
    have e : (St.bad c p).want x.data.toList = .bad c p := rfl
    rw [e]
    have HW := Lib.hid (want_nil x w)
    clear h e
    simp only [St.ptr] at c0
    go_enter Tryz.func133, Tryz.ntmps133
    go_wp2_with fail
    with_reducible refine (HW.out).mono ?_
    rintro e w1 ⟨rfl, hb1⟩
    have HB := Lib.hid hb1
    clear hb1
    go_wp2_with fail
    refine (mfail_bad w1 (H.out.below HB.out) _ _).mono ?_
    rintro e w2 ⟨rfl, hM, hF⟩
    go_wp2
    go_end0
    exact ⟨rfl, hM, (Fx.of HB.out).trans hF⟩
  | good us =>
    have hT : TR w rb us := h.tr
    obtain ⟨ts, k, h1, h2, h3⟩ := hT.get
    simp only [St.ptr] at c0
    by_cases hi : isT (hd us) x.data.toList = true
    · have e : (St.good us).want x.data.toList = .good us.tail := by simp [St.want, St.hd, hi, St.tl]
      rw [e]
      have HW := Lib.hid (want_yes x h2 h3 hi (tr_len hT h1 (isT_kind hi)))
      have HO := Lib.hid (fun (w' : World) (hR : RD w' rb ts (k + 1)) (hg : w.grownBy w' (some rb)) => h.on h1 (isT_kind hi) hR hg)
      clear h e h2 h3 hi h1 hT
      go_enter Tryz.func133, Tryz.ntmps133
      go_wp2_with fail
      with_reducible refine (HW.out).mono ?_
      rintro e w1 ⟨rfl, hR, hg⟩
      have HM := Lib.hid (HO.out w1 hR hg)
      clear hR hg
      go_wp2_with fail
      refine (mfail_nil w1 HM.out.1).mono ?_
      rintro e w2 ⟨rfl, hM, hF⟩
      go_wp2
      go_end0
      exact ⟨rfl, hM, HM.out.2.trans hF⟩
    · have hi' : isT (hd us) x.data.toList = false := by simpa using hi
      have e : (St.good us).want x.data.toList = .bad 20 (hd us).pos := by simp [St.want, St.hd, hi', St.fail]
      rw [e]
      have HW := Lib.hid (want_no x (peeks_at h2 h3) hi')
      clear h e h2 h3 hi hi' h1 hT
      go_enter Tryz.func133, Tryz.ntmps133
      go_wp2_with fail
      with_reducible refine (HW.out).mono ?_
      rintro e w1 ⟨eb, rfl, hle, hA, hb⟩
      have HB := Lib.hid hb
      have HA := Lib.hid hA
      clear hb hA
      go_wp2_with fail
      refine (mfail_good w1 (H.out.below HB.out).mr0 HA.out).mono ?_
      rintro e w2 ⟨rfl, hM, hF⟩
      go_wp2
      go_end0
      exact ⟨rfl, hM, (Fx.of HB.out).trans hF⟩
set_option maxHeartbeats 1000000 in
theorem mrefuse_any (w : World) (h : MRd w xb rb b D st) : Calls Tryz.prog 181 #[.pointer (some ⟨xb, 0, none⟩)] w (MU xb rb b D (st.fail 20) w) := by
  have hx := h.ltx
  have c0 := h.c0
  have H := Lib.hid h
  have HP := Lib.hid h.peek
  have hf0 := field0
  have hf1 := field1
  have hf2 := field2
  cases st with
  | bad c p =>
    have e : (St.bad c p).fail 20 = .bad c p := rfl
    rw [e]
    clear h e
    simp only [St.ptr] at c0 HP
    go_enter Tryz.func181, Tryz.ntmps181
    go_wp2_with fail
    with_reducible refine (HP.out).mono ?_
    rintro e w1 ⟨rfl, hb1⟩
    have HB := Lib.hid hb1
    clear hb1
    go_wp2_with fail
    refine (mfail_bad _ ((H.out.below HB.out).alloc _) _ _).mono ?_
    rintro e w2 ⟨rfl, hM, hF⟩
    go_wp2
    go_end0
    exact ⟨rfl, hM, ((Fx.of HB.out).alloc _).trans hF⟩
  | good us =>
    have e : (St.good us).fail 20 = .bad 20 (hd us).pos := rfl
    rw [e]
    clear h e
    simp only [St.ptr, St.hd] at c0 HP
    go_enter Tryz.func181, Tryz.ntmps181
    go_wp2_with fail
    with_reducible refine (HP.out).mono ?_
    rintro e w1 ⟨rfl, hb1⟩
    have HB := Lib.hid hb1
    clear hb1
    go_wp2_with fail
    refine (mfail_good (c := 20) (p := (hd us).pos) _ ((H.out.below HB.out).alloc _).mr0 (AtE.new rfl _ _)).mono ?_
    rintro e w2 ⟨rfl, hM, hF⟩
    go_wp2
    go_end0
    exact ⟨rfl, hM, ((Fx.of HB.out).alloc _).trans hF⟩
end
def WdP (v : Bool) (w : World) (e : Ending) (w' : World) : Prop := e = .returned (.bool v) ∧ w = w'
theorem isword_any (s : ByteArray) (w : World) : Calls Tryz.prog 241 #[.string s] w (WdP (isWd s.data.toList) w) := by
  rw [← ByteArray.toList_eq]
  by_cases h0 : s.toList = [109, 100, 112]
  · have h := h0
    clear h0
    have g0 : (s.toList == [109, 100, 112]) = true := by rw [h]; rfl
    have g1 : (s.toList == [99, 111, 110, 115, 116]) = false := by rw [h]; rfl
    have g2 : (s.toList == [102, 111, 114, 109, 117, 108, 97]) = false := by rw [h]; rfl
    have g3 : (s.toList == [108, 97, 98, 101, 108]) = false := by rw [h]; rfl
    have g4 : (s.toList == [109, 111, 100, 117, 108, 101]) = false := by rw [h]; rfl
    have g5 : (s.toList == [101, 110, 100, 109, 111, 100, 117, 108, 101]) = false := by rw [h]; rfl
    have g6 : (s.toList == [98, 111, 111, 108]) = false := by rw [h]; rfl
    have g7 : (s.toList == [105, 110, 105, 116]) = false := by rw [h]; rfl
    have g8 : (s.toList == [116, 114, 117, 101]) = false := by rw [h]; rfl
    have g9 : (s.toList == [102, 97, 108, 115, 101]) = false := by rw [h]; rfl
    have HK := Lib.hid (show isWd s.toList = true by rw [h]; rfl)
    clear h
    go_enter Tryz.func241, Tryz.ntmps241
    go_wp2
    go_ret
    exact ⟨ret_bool HK.out.symm, rfl⟩
  by_cases h1 : s.toList = [99, 111, 110, 115, 116]
  · have h := h1
    clear h1 h0
    have g0 : (s.toList == [109, 100, 112]) = false := by rw [h]; rfl
    have g1 : (s.toList == [99, 111, 110, 115, 116]) = true := by rw [h]; rfl
    have g2 : (s.toList == [102, 111, 114, 109, 117, 108, 97]) = false := by rw [h]; rfl
    have g3 : (s.toList == [108, 97, 98, 101, 108]) = false := by rw [h]; rfl
    have g4 : (s.toList == [109, 111, 100, 117, 108, 101]) = false := by rw [h]; rfl
    have g5 : (s.toList == [101, 110, 100, 109, 111, 100, 117, 108, 101]) = false := by rw [h]; rfl
    have g6 : (s.toList == [98, 111, 111, 108]) = false := by rw [h]; rfl
    have g7 : (s.toList == [105, 110, 105, 116]) = false := by rw [h]; rfl
    have g8 : (s.toList == [116, 114, 117, 101]) = false := by rw [h]; rfl
    have g9 : (s.toList == [102, 97, 108, 115, 101]) = false := by rw [h]; rfl
    have HK := Lib.hid (show isWd s.toList = true by rw [h]; rfl)
    clear h
    go_enter Tryz.func241, Tryz.ntmps241
    go_wp2
    go_ret
    exact ⟨ret_bool HK.out.symm, rfl⟩
  by_cases h2 : s.toList = [102, 111, 114, 109, 117, 108, 97]
  · have h := h2
    clear h2 h1 h0
    have g0 : (s.toList == [109, 100, 112]) = false := by rw [h]; rfl
    have g1 : (s.toList == [99, 111, 110, 115, 116]) = false := by rw [h]; rfl
    have g2 : (s.toList == [102, 111, 114, 109, 117, 108, 97]) = true := by rw [h]; rfl
    have g3 : (s.toList == [108, 97, 98, 101, 108]) = false := by rw [h]; rfl
    have g4 : (s.toList == [109, 111, 100, 117, 108, 101]) = false := by rw [h]; rfl
    have g5 : (s.toList == [101, 110, 100, 109, 111, 100, 117, 108, 101]) = false := by rw [h]; rfl
    have g6 : (s.toList == [98, 111, 111, 108]) = false := by rw [h]; rfl
    have g7 : (s.toList == [105, 110, 105, 116]) = false := by rw [h]; rfl
    have g8 : (s.toList == [116, 114, 117, 101]) = false := by rw [h]; rfl
    have g9 : (s.toList == [102, 97, 108, 115, 101]) = false := by rw [h]; rfl
    have HK := Lib.hid (show isWd s.toList = true by rw [h]; rfl)
    clear h
    go_enter Tryz.func241, Tryz.ntmps241
    go_wp2
    go_ret
    exact ⟨ret_bool HK.out.symm, rfl⟩
  by_cases h3 : s.toList = [108, 97, 98, 101, 108]
  · have h := h3
    clear h3 h2 h1 h0
    have g0 : (s.toList == [109, 100, 112]) = false := by rw [h]; rfl
    have g1 : (s.toList == [99, 111, 110, 115, 116]) = false := by rw [h]; rfl
    have g2 : (s.toList == [102, 111, 114, 109, 117, 108, 97]) = false := by rw [h]; rfl
    have g3 : (s.toList == [108, 97, 98, 101, 108]) = true := by rw [h]; rfl
    have g4 : (s.toList == [109, 111, 100, 117, 108, 101]) = false := by rw [h]; rfl
    have g5 : (s.toList == [101, 110, 100, 109, 111, 100, 117, 108, 101]) = false := by rw [h]; rfl
    have g6 : (s.toList == [98, 111, 111, 108]) = false := by rw [h]; rfl
    have g7 : (s.toList == [105, 110, 105, 116]) = false := by rw [h]; rfl
    have g8 : (s.toList == [116, 114, 117, 101]) = false := by rw [h]; rfl
    have g9 : (s.toList == [102, 97, 108, 115, 101]) = false := by rw [h]; rfl
    have HK := Lib.hid (show isWd s.toList = true by rw [h]; rfl)
    clear h
    go_enter Tryz.func241, Tryz.ntmps241
    go_wp2
    go_ret
    exact ⟨ret_bool HK.out.symm, rfl⟩
  by_cases h4 : s.toList = [109, 111, 100, 117, 108, 101]
  · have h := h4
    clear h4 h3 h2 h1 h0
    have g0 : (s.toList == [109, 100, 112]) = false := by rw [h]; rfl
    have g1 : (s.toList == [99, 111, 110, 115, 116]) = false := by rw [h]; rfl
    have g2 : (s.toList == [102, 111, 114, 109, 117, 108, 97]) = false := by rw [h]; rfl
    have g3 : (s.toList == [108, 97, 98, 101, 108]) = false := by rw [h]; rfl
    have g4 : (s.toList == [109, 111, 100, 117, 108, 101]) = true := by rw [h]; rfl
    have g5 : (s.toList == [101, 110, 100, 109, 111, 100, 117, 108, 101]) = false := by rw [h]; rfl
    have g6 : (s.toList == [98, 111, 111, 108]) = false := by rw [h]; rfl
    have g7 : (s.toList == [105, 110, 105, 116]) = false := by rw [h]; rfl
    have g8 : (s.toList == [116, 114, 117, 101]) = false := by rw [h]; rfl
    have g9 : (s.toList == [102, 97, 108, 115, 101]) = false := by rw [h]; rfl
    have HK := Lib.hid (show isWd s.toList = true by rw [h]; rfl)
    clear h
    go_enter Tryz.func241, Tryz.ntmps241
    go_wp2
    go_ret
    exact ⟨ret_bool HK.out.symm, rfl⟩
  by_cases h5 : s.toList = [101, 110, 100, 109, 111, 100, 117, 108, 101]
  · have h := h5
    clear h5 h4 h3 h2 h1 h0
    have g0 : (s.toList == [109, 100, 112]) = false := by rw [h]; rfl
    have g1 : (s.toList == [99, 111, 110, 115, 116]) = false := by rw [h]; rfl
    have g2 : (s.toList == [102, 111, 114, 109, 117, 108, 97]) = false := by rw [h]; rfl
    have g3 : (s.toList == [108, 97, 98, 101, 108]) = false := by rw [h]; rfl
    have g4 : (s.toList == [109, 111, 100, 117, 108, 101]) = false := by rw [h]; rfl
    have g5 : (s.toList == [101, 110, 100, 109, 111, 100, 117, 108, 101]) = true := by rw [h]; rfl
    have g6 : (s.toList == [98, 111, 111, 108]) = false := by rw [h]; rfl
    have g7 : (s.toList == [105, 110, 105, 116]) = false := by rw [h]; rfl
    have g8 : (s.toList == [116, 114, 117, 101]) = false := by rw [h]; rfl
    have g9 : (s.toList == [102, 97, 108, 115, 101]) = false := by rw [h]; rfl
    have HK := Lib.hid (show isWd s.toList = true by rw [h]; rfl)
    clear h
    go_enter Tryz.func241, Tryz.ntmps241
    go_wp2
    go_ret
    exact ⟨ret_bool HK.out.symm, rfl⟩
  by_cases h6 : s.toList = [98, 111, 111, 108]
  · have h := h6
    clear h6 h5 h4 h3 h2 h1 h0
    have g0 : (s.toList == [109, 100, 112]) = false := by rw [h]; rfl
    have g1 : (s.toList == [99, 111, 110, 115, 116]) = false := by rw [h]; rfl
    have g2 : (s.toList == [102, 111, 114, 109, 117, 108, 97]) = false := by rw [h]; rfl
    have g3 : (s.toList == [108, 97, 98, 101, 108]) = false := by rw [h]; rfl
    have g4 : (s.toList == [109, 111, 100, 117, 108, 101]) = false := by rw [h]; rfl
    have g5 : (s.toList == [101, 110, 100, 109, 111, 100, 117, 108, 101]) = false := by rw [h]; rfl
    have g6 : (s.toList == [98, 111, 111, 108]) = true := by rw [h]; rfl
    have g7 : (s.toList == [105, 110, 105, 116]) = false := by rw [h]; rfl
    have g8 : (s.toList == [116, 114, 117, 101]) = false := by rw [h]; rfl
    have g9 : (s.toList == [102, 97, 108, 115, 101]) = false := by rw [h]; rfl
    have HK := Lib.hid (show isWd s.toList = true by rw [h]; rfl)
    clear h
    go_enter Tryz.func241, Tryz.ntmps241
    go_wp2
    go_ret
    exact ⟨ret_bool HK.out.symm, rfl⟩
  by_cases h7 : s.toList = [105, 110, 105, 116]
  · have h := h7
    clear h7 h6 h5 h4 h3 h2 h1 h0
    have g0 : (s.toList == [109, 100, 112]) = false := by rw [h]; rfl
    have g1 : (s.toList == [99, 111, 110, 115, 116]) = false := by rw [h]; rfl
    have g2 : (s.toList == [102, 111, 114, 109, 117, 108, 97]) = false := by rw [h]; rfl
    have g3 : (s.toList == [108, 97, 98, 101, 108]) = false := by rw [h]; rfl
    have g4 : (s.toList == [109, 111, 100, 117, 108, 101]) = false := by rw [h]; rfl
    have g5 : (s.toList == [101, 110, 100, 109, 111, 100, 117, 108, 101]) = false := by rw [h]; rfl
    have g6 : (s.toList == [98, 111, 111, 108]) = false := by rw [h]; rfl
    have g7 : (s.toList == [105, 110, 105, 116]) = true := by rw [h]; rfl
    have g8 : (s.toList == [116, 114, 117, 101]) = false := by rw [h]; rfl
    have g9 : (s.toList == [102, 97, 108, 115, 101]) = false := by rw [h]; rfl
    have HK := Lib.hid (show isWd s.toList = true by rw [h]; rfl)
    clear h
    go_enter Tryz.func241, Tryz.ntmps241
    go_wp2
    go_ret
    exact ⟨ret_bool HK.out.symm, rfl⟩
  by_cases h8 : s.toList = [116, 114, 117, 101]
  · have h := h8
    clear h8 h7 h6 h5 h4 h3 h2 h1 h0
    have g0 : (s.toList == [109, 100, 112]) = false := by rw [h]; rfl
    have g1 : (s.toList == [99, 111, 110, 115, 116]) = false := by rw [h]; rfl
    have g2 : (s.toList == [102, 111, 114, 109, 117, 108, 97]) = false := by rw [h]; rfl
    have g3 : (s.toList == [108, 97, 98, 101, 108]) = false := by rw [h]; rfl
    have g4 : (s.toList == [109, 111, 100, 117, 108, 101]) = false := by rw [h]; rfl
    have g5 : (s.toList == [101, 110, 100, 109, 111, 100, 117, 108, 101]) = false := by rw [h]; rfl
    have g6 : (s.toList == [98, 111, 111, 108]) = false := by rw [h]; rfl
    have g7 : (s.toList == [105, 110, 105, 116]) = false := by rw [h]; rfl
    have g8 : (s.toList == [116, 114, 117, 101]) = true := by rw [h]; rfl
    have g9 : (s.toList == [102, 97, 108, 115, 101]) = false := by rw [h]; rfl
    have HK := Lib.hid (show isWd s.toList = true by rw [h]; rfl)
    clear h
    go_enter Tryz.func241, Tryz.ntmps241
    go_wp2
    go_ret
    exact ⟨ret_bool HK.out.symm, rfl⟩
  by_cases h9 : s.toList = [102, 97, 108, 115, 101]
  · have h := h9
    clear h9 h8 h7 h6 h5 h4 h3 h2 h1 h0
    have g0 : (s.toList == [109, 100, 112]) = false := by rw [h]; rfl
    have g1 : (s.toList == [99, 111, 110, 115, 116]) = false := by rw [h]; rfl
    have g2 : (s.toList == [102, 111, 114, 109, 117, 108, 97]) = false := by rw [h]; rfl
    have g3 : (s.toList == [108, 97, 98, 101, 108]) = false := by rw [h]; rfl
    have g4 : (s.toList == [109, 111, 100, 117, 108, 101]) = false := by rw [h]; rfl
    have g5 : (s.toList == [101, 110, 100, 109, 111, 100, 117, 108, 101]) = false := by rw [h]; rfl
    have g6 : (s.toList == [98, 111, 111, 108]) = false := by rw [h]; rfl
    have g7 : (s.toList == [105, 110, 105, 116]) = false := by rw [h]; rfl
    have g8 : (s.toList == [116, 114, 117, 101]) = false := by rw [h]; rfl
    have g9 : (s.toList == [102, 97, 108, 115, 101]) = true := by rw [h]; rfl
    have HK := Lib.hid (show isWd s.toList = true by rw [h]; rfl)
    clear h
    go_enter Tryz.func241, Tryz.ntmps241
    go_wp2
    go_ret
    exact ⟨ret_bool HK.out.symm, rfl⟩
  have g0 : (s.toList == [109, 100, 112]) = false := by simpa using h0
  have g1 : (s.toList == [99, 111, 110, 115, 116]) = false := by simpa using h1
  have g2 : (s.toList == [102, 111, 114, 109, 117, 108, 97]) = false := by simpa using h2
  have g3 : (s.toList == [108, 97, 98, 101, 108]) = false := by simpa using h3
  have g4 : (s.toList == [109, 111, 100, 117, 108, 101]) = false := by simpa using h4
  have g5 : (s.toList == [101, 110, 100, 109, 111, 100, 117, 108, 101]) = false := by simpa using h5
  have g6 : (s.toList == [98, 111, 111, 108]) = false := by simpa using h6
  have g7 : (s.toList == [105, 110, 105, 116]) = false := by simpa using h7
  have g8 : (s.toList == [116, 114, 117, 101]) = false := by simpa using h8
  have g9 : (s.toList == [102, 97, 108, 115, 101]) = false := by simpa using h9
  have HK := Lib.hid (show isWd s.toList = false by simp [isWd, wMdp, wConst, wFormula, wLabel, wModule, wEnd, wBool, wInit, opTrue, opFalse, h0, h1, h2, h3, h4, h5, h6, h7, h8, h9])
  clear h9 h8 h7 h6 h5 h4 h3 h2 h1 h0
  go_enter Tryz.func241, Tryz.ntmps241
  go_wp2
  go_ret
  exact ⟨ret_bool HK.out.symm, rfl⟩
section
variable {xb rb b D : Nat} {st : St}
set_option maxHeartbeats 1000000 in
theorem misname_any (w : World) (h : MRd w xb rb b D st) : Calls Tryz.prog 215 #[.pointer (some ⟨xb, 0, none⟩)] w fun e w' => e = .returned (.bool (isNm st.hd)) ∧ Below w.heap.size w w' := by
  have hx := h.ltx
  have c0 := h.c0
  have HP := Lib.hid h.peek
  clear h
  by_cases hk : st.hd.kind = 1
  · have g1 : (((st.hd.kind : Nat) : Int) == 1) = true := by rw [hk]; rfl
    have HI := Lib.hid (fun W : World => isword_any ⟨st.hd.text.toArray⟩ W)
    have HK := Lib.hid (show isNm st.hd = !isWd st.hd.text by simp [isNm, hk])
    clear hk
    cases hw : isWd st.hd.text with
    | true =>
      rw [show isWd (⟨st.hd.text.toArray⟩ : ByteArray).data.toList = true from hw] at HI
      rw [hw] at HK
      clear hw
      go_enter Tryz.func215, Tryz.ntmps215
      go_wp2_with fail
      with_reducible refine (HP.out).mono ?_
      rintro e w1 ⟨rfl, hb1⟩
      have HB := Lib.hid hb1
      clear hb1
      go_wp2_with fail
      with_reducible refine (HI.out _).mono ?_
      rintro e w2 ⟨rfl, rfl⟩
      go_wp2
      go_ret
      exact ⟨ret_bool HK.out.symm, HB.out.alloc HB.out.size _⟩
    | false =>
      rw [show isWd (⟨st.hd.text.toArray⟩ : ByteArray).data.toList = false from hw] at HI
      rw [hw] at HK
      clear hw
      go_enter Tryz.func215, Tryz.ntmps215
      go_wp2_with fail
      with_reducible refine (HP.out).mono ?_
      rintro e w1 ⟨rfl, hb1⟩
      have HB := Lib.hid hb1
      clear hb1
      go_wp2_with fail
      with_reducible refine (HI.out _).mono ?_
      rintro e w2 ⟨rfl, rfl⟩
      go_wp2
      go_ret
      exact ⟨ret_bool HK.out.symm, HB.out.alloc HB.out.size _⟩
  · have g1 : (((st.hd.kind : Nat) : Int) == 1) = false := by rw [beq_eq_false_iff_ne]; omega
    have HK := Lib.hid (show isNm st.hd = false by simp [isNm, hk])
    clear hk
    go_enter Tryz.func215, Tryz.ntmps215
    go_wp2_with fail
    with_reducible refine (HP.out).mono ?_
    rintro e w1 ⟨rfl, hb1⟩
    have HB := Lib.hid hb1
    clear hb1
    go_wp2
    go_ret
    exact ⟨ret_bool HK.out.symm, HB.out.alloc HB.out.size _⟩
end
end Go.Proofs.YtddeplbgihcdkaaGreatDoor
