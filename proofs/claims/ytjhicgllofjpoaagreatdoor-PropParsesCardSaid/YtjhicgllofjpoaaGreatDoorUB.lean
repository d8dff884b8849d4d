/-
  How a question begins, walked: Pmin or Pmax, = 1 or > 0. A question of a reader, walked. Questions in memory, one behind the other; a reader's questions up to the end, walked. A whole text read as questions; texts at a depth that isn't one, walked.
-/
import Derived.Test.YtjhicgllofjpoaaGreatDoorUA
import Derived.Test.YtjhicgllofjpoaaGreatDoorJC
import Derived.Deep.LoopGhost
import Derived.Deep.AppendLies
namespace Go.Proofs.YtjhicgllofjpoaaGreatDoor
section
open Go.RowKit

/-- What a call that reads a text leaves. -/
def StrP (xb rb b D : Nat) (r : List UInt8 × St) (w : World) (e : Ending) (w' : World) : Prop := e = .returned (.string ⟨r.1.toArray⟩) ∧ PRd w' xb rb b D r.2 ∧ Fx (X2 xb rb) w w'
theorem fail_kind (c : Nat) (st : St) : (st.fail c).hd.kind = 0 := by cases st <;> rfl
section
variable {xb rb b D : Nat} {st : St}
set_option maxHeartbeats 1000000 in
theorem pextr_any (w : World) (h : PRd w xb rb b D st) : Calls Tryz.prog 84 #[.pointer (some ⟨xb, 0, none⟩)] w (StrP xb rb b D st.extr w) := by
  have hx := h.ltx
  have c0 := h.c0
  cases hi : isT st.hd wMin with
  | true =>
    have H1 := Lib.hid (h.skip_yes ⟨#[80, 109, 105, 110]⟩ hi)
    rw [show st.extr = (wMin, st.tl) by unfold St.extr; rw [if_pos hi]]
    clear h hi
    go_enter Tryz.func84, Tryz.ntmps84
    go_wp2_with fail
    with_reducible refine (H1.out).mono ?_
    rintro e w1 ⟨rfl, hM, hF⟩
    go_wp2
    go_ret
    exact ⟨rfl, hM, hF⟩
  | false =>
    have H1 := Lib.hid (h.skip_no ⟨#[80, 109, 105, 110]⟩ hi)
    have HC := Lib.hid (fun (W : World) (hb : Below w.heap.size w W) => (⟨(h.below hb).c0, (h.below hb).ltx⟩ : W.cell? ⟨xb, 0, none⟩ = some (.pointer (st.ptr rb)) ∧ xb < W.heap.size))
    cases hj : isT st.hd wMax with
    | true =>
      have H2 := Lib.hid (fun (W : World) (hb : Below w.heap.size w W) => (h.below hb).skip_yes ⟨#[80, 109, 97, 120]⟩ hj)
      rw [show st.extr = (wMax, st.tl) by unfold St.extr; rw [if_neg (by rw [hi]; simp), if_pos hj]]
      clear h hi hj
      go_enter Tryz.func84, Tryz.ntmps84
      go_wp2_with fail
      with_reducible refine (H1.out).mono ?_
      rintro e w1 ⟨rfl, hb1⟩
      have HB1 := Lib.hid hb1
      obtain ⟨c0, hx1⟩ := HC.out w1 hb1
      clear hb1
      go_wp2_with fail
      with_reducible refine (H2.out w1 HB1.out).mono ?_
      rintro e w2 ⟨rfl, hM, hF⟩
      have HM := Lib.hid hM
      have HF := Lib.hid ((Fx.of (X := X2 xb rb) HB1.out).trans hF)
      clear hM hF
      go_wp2
      go_ret
      exact ⟨rfl, HM.out, HF.out⟩
    | false =>
      have H2 := Lib.hid (fun (W : World) (hb : Below w.heap.size w W) => (h.below hb).skip_no ⟨#[80, 109, 97, 120]⟩ hj)
      have H := Lib.hid h
      rw [show st.extr = ([], st.fail 20) by unfold St.extr; rw [if_neg (by rw [hi]; simp), if_neg (by rw [hj]; simp)]]
      clear h hi hj
      go_enter Tryz.func84, Tryz.ntmps84
      go_wp2_with fail
      with_reducible refine (H1.out).mono ?_
      rintro e w1 ⟨rfl, hb1⟩
      have HB1 := Lib.hid hb1
      obtain ⟨c0, hx1⟩ := HC.out w1 hb1
      clear hb1
      go_wp2_with fail
      with_reducible refine (H2.out w1 HB1.out).mono ?_
      rintro e w2 ⟨rfl, hb2⟩
      have HB2 := Lib.hid (HB1.out.trans (hb2.mono HB1.out.size))
      clear hb2
      go_wp2_with fail
      refine (prefuse_any w2 (H.out.below HB2.out)).mono ?_
      rintro e w3 ⟨rfl, hM, hF⟩
      have HM := Lib.hid hM
      have HF := Lib.hid ((Fx.of (X := X2 xb rb) HB2.out).trans hF)
      clear hM hF
      go_wp2
      go_ret
      exact ⟨rfl, HM.out, HF.out⟩
def DgP (xb rb b D : Nat) (x : ByteArray) (s : St) (w : World) (e : Ending) (w' : World) : Prop := e = .returned (.string x) ∧ PRd w' xb rb b D s ∧ Fx (X2 xb rb) w w'
set_option maxHeartbeats 1000000 in
theorem pdigs_yes (x : ByteArray) (hk : st.hd.kind = 2) (ht : st.hd.text = x.data.toList) (w : World) (h : PRd w xb rb b D st) : Calls Tryz.prog 103 #[.pointer (some ⟨xb, 0, none⟩), .string x] w (DgP xb rb b D x st.tl w) := by
  have hx := h.ltx
  have c0 := h.c0
  have H := Lib.hid h
  have HP := Lib.hid (fun (W : World) (hW : PRd W xb rb b D st) => hW.peek)
  have hf0 := field0
  have hf1 := field1
  have hf2 := field2
  have g1 : ((st.hd.kind : Int) != 2) = false := by rw [hk]; rfl
  have g2 : (st.hd.text == x.toList) = true := by rw [ByteArray.toList_eq, ht]; simp
  have hk0 : st.hd.kind ≠ 0 := by omega
  have HTK := Lib.hid (fun (W : World) (hW : PRd W xb rb b D st) => hW.take_on hk0)
  clear h hk hk0 ht
  go_enter Tryz.func103, Tryz.ntmps103
  go_wp2_with fail
  refine (HP.out w H.out).mono ?_
  rintro e w1 ⟨rfl, hb1⟩
  have hM1 := H.out.below hb1
  have c0 := hM1.c0
  have hx1 := hM1.ltx
  have HM1 := Lib.hid (hM1.alloc (.cells #[.int .i64 (st.hd.kind : Int), .string ⟨st.hd.text.toArray⟩, .int .i64 (st.hd.pos : Int)] 135))
  have HF1 := Lib.hid ((Fx.of (X := X2 xb rb) hb1).alloc (.cells #[.int .i64 (st.hd.kind : Int), .string ⟨st.hd.text.toArray⟩, .int .i64 (st.hd.pos : Int)] 135))
  clear hM1 hb1
  go_wp2_with fail
  refine (HTK.out _ HM1.out).mono ?_
  rintro e w3 ⟨rfl, hM3, hF3⟩
  have HM3 := Lib.hid hM3
  have HF3 := Lib.hid (HF1.out.trans hF3)
  clear hM3 hF3
  go_wp2
  go_ret
  exact ⟨rfl, HM3.out, HF3.out⟩
set_option maxHeartbeats 1000000 in
theorem pdigs_no (x : ByteArray) (hn : st.hd.kind ≠ 2 ∨ (st.hd.kind = 2 ∧ st.hd.text ≠ x.data.toList)) (w : World) (h : PRd w xb rb b D st) : Calls Tryz.prog 103 #[.pointer (some ⟨xb, 0, none⟩), .string x] w (DgP xb rb b D x (st.fail 20) w) := by
  have hx := h.ltx
  have c0 := h.c0
  have H := Lib.hid h
  have HP := Lib.hid (fun (W : World) (hW : PRd W xb rb b D st) => hW.peek)
  have hf0 := field0
  have hf1 := field1
  have hf2 := field2
  have HR := Lib.hid (fun (W : World) (hW : PRd W xb rb b D st) => prefuse_any W hW)
  have HTK := Lib.hid (fun (W : World) (hW : PRd W xb rb b D (st.fail 20)) => hW.take_end (fail_kind 20 st))
  have hc : (((st.hd.kind : Int) != 2) = true) ∨ (((st.hd.kind : Int) != 2) = false ∧ (st.hd.text == x.toList) = false) := by
    rcases hn with hk | ⟨hk, ht⟩
    · left; rw [bne_iff_ne]; omega
    · right
      refine ⟨by rw [hk]; rfl, ?_⟩
      rw [ByteArray.toList_eq, beq_eq_false_iff_ne]
      exact ht
  clear h hn
  rcases hc with g1 | ⟨g1, g2⟩
  · go_enter Tryz.func103, Tryz.ntmps103
    go_wp2_with fail
    refine (HP.out w H.out).mono ?_
    rintro e w1 ⟨rfl, hb1⟩
    have hM1 := H.out.below hb1
    have c0 := hM1.c0
    have hx1 := hM1.ltx
    have HM1 := Lib.hid (hM1.alloc (.cells #[.int .i64 (st.hd.kind : Int), .string ⟨st.hd.text.toArray⟩, .int .i64 (st.hd.pos : Int)] 135))
    have HF1 := Lib.hid ((Fx.of (X := X2 xb rb) hb1).alloc (.cells #[.int .i64 (st.hd.kind : Int), .string ⟨st.hd.text.toArray⟩, .int .i64 (st.hd.pos : Int)] 135))
    clear hM1 hb1
    go_wp2_with fail
    refine (HR.out _ HM1.out).mono ?_
    rintro e w2 ⟨rfl, hM2, hF2⟩
    have c0 := hM2.c0
    have hx2 := hM2.ltx
    have HM2 := Lib.hid hM2
    have HF2 := Lib.hid (HF1.out.trans hF2)
    clear hM2 hF2
    go_wp2_with fail
    refine (HTK.out _ HM2.out).mono ?_
    rintro e w3 ⟨rfl, hb3⟩
    have HB3 := Lib.hid hb3
    clear hb3
    go_wp2
    go_ret
    exact ⟨rfl, HM2.out.below HB3.out, HF2.out.on HB3.out⟩
  · go_enter Tryz.func103, Tryz.ntmps103
    go_wp2_with fail
    refine (HP.out w H.out).mono ?_
    rintro e w1 ⟨rfl, hb1⟩
    have hM1 := H.out.below hb1
    have c0 := hM1.c0
    have hx1 := hM1.ltx
    have HM1 := Lib.hid (hM1.alloc (.cells #[.int .i64 (st.hd.kind : Int), .string ⟨st.hd.text.toArray⟩, .int .i64 (st.hd.pos : Int)] 135))
    have HF1 := Lib.hid ((Fx.of (X := X2 xb rb) hb1).alloc (.cells #[.int .i64 (st.hd.kind : Int), .string ⟨st.hd.text.toArray⟩, .int .i64 (st.hd.pos : Int)] 135))
    clear hM1 hb1
    go_wp2_with fail
    refine (HR.out _ HM1.out).mono ?_
    rintro e w2 ⟨rfl, hM2, hF2⟩
    have c0 := hM2.c0
    have hx2 := hM2.ltx
    have HM2 := Lib.hid hM2
    have HF2 := Lib.hid (HF1.out.trans hF2)
    clear hM2 hF2
    go_wp2_with fail
    refine (HTK.out _ HM2.out).mono ?_
    rintro e w3 ⟨rfl, hb3⟩
    have HB3 := Lib.hid hb3
    clear hb3
    go_wp2
    go_ret
    exact ⟨rfl, HM2.out.below HB3.out, HF2.out.on HB3.out⟩
theorem pdigs_any (x : ByteArray) (w : World) (h : PRd w xb rb b D st) : Calls Tryz.prog 103 #[.pointer (some ⟨xb, 0, none⟩), .string x] w (DgP xb rb b D x (st.digs x.data.toList) w) := by
  by_cases hc : st.hd.kind = 2 ∧ st.hd.text = x.data.toList
  · rw [show st.digs x.data.toList = st.tl by unfold St.digs; rw [if_pos hc]]
    exact pdigs_yes x hc.1 hc.2 w h
  · rw [show st.digs x.data.toList = st.fail 20 by unfold St.digs; rw [if_neg hc]]
    refine pdigs_no x ?_ w h
    by_cases hk : st.hd.kind = 2
    · exact .inr ⟨hk, fun ht => hc ⟨hk, ht⟩⟩
    · exact .inl hk
set_option maxHeartbeats 1000000 in
theorem pbnd_any (w : World) (h : PRd w xb rb b D st) : Calls Tryz.prog 85 #[.pointer (some ⟨xb, 0, none⟩)] w (StrP xb rb b D st.bnd w) := by
  have hx := h.ltx
  have c0 := h.c0
  cases hi : isT st.hd [61] with
  | true =>
    have H1 := Lib.hid (h.skip_yes ⟨#[61]⟩ hi)
    rw [show st.bnd = ([61, 49], st.tl.digs [49]) by unfold St.bnd; rw [if_pos hi]]
    clear h hi
    go_enter Tryz.func85, Tryz.ntmps85
    go_wp2_with fail
    with_reducible refine (H1.out).mono ?_
    rintro e w1 ⟨rfl, hM, hF⟩
    have HM := Lib.hid hM
    have HF := Lib.hid hF
    clear hM hF
    go_wp2_with fail
    refine (pdigs_any ⟨#[49]⟩ w1 HM.out).mono ?_
    rintro e w2 ⟨rfl, hM2, hF2⟩
    have HM2 := Lib.hid hM2
    have HF2 := Lib.hid (HF.out.trans hF2)
    clear hM2 hF2
    go_wp2
    go_ret
    exact ⟨rfl, HM2.out, HF2.out⟩
  | false =>
    have H1 := Lib.hid (h.skip_no ⟨#[61]⟩ hi)
    have HC := Lib.hid (fun (W : World) (hb : Below w.heap.size w W) => (⟨(h.below hb).c0, (h.below hb).ltx⟩ : W.cell? ⟨xb, 0, none⟩ = some (.pointer (st.ptr rb)) ∧ xb < W.heap.size))
    cases hj : isT st.hd [62] with
    | true =>
      have H2 := Lib.hid (fun (W : World) (hb : Below w.heap.size w W) => (h.below hb).skip_yes ⟨#[62]⟩ hj)
      rw [show st.bnd = ([62, 48], st.tl.digs [48]) by unfold St.bnd; rw [if_neg (by rw [hi]; simp), if_pos hj]]
      clear h hi hj
      go_enter Tryz.func85, Tryz.ntmps85
      go_wp2_with fail
      with_reducible refine (H1.out).mono ?_
      rintro e w1 ⟨rfl, hb1⟩
      have HB1 := Lib.hid hb1
      obtain ⟨c0, hx1⟩ := HC.out w1 hb1
      clear hb1
      go_wp2_with fail
      with_reducible refine (H2.out w1 HB1.out).mono ?_
      rintro e w2 ⟨rfl, hM, hF⟩
      have HM := Lib.hid hM
      have HF := Lib.hid ((Fx.of (X := X2 xb rb) HB1.out).trans hF)
      clear hM hF
      go_wp2_with fail
      refine (pdigs_any ⟨#[48]⟩ w2 HM.out).mono ?_
      rintro e w3 ⟨rfl, hM2, hF2⟩
      have HM2 := Lib.hid hM2
      have HF2 := Lib.hid (HF.out.trans hF2)
      clear hM2 hF2
      go_wp2
      go_ret
      exact ⟨rfl, HM2.out, HF2.out⟩
    | false =>
      have H2 := Lib.hid (fun (W : World) (hb : Below w.heap.size w W) => (h.below hb).skip_no ⟨#[62]⟩ hj)
      have H := Lib.hid h
      rw [show st.bnd = ([], st.fail 20) by unfold St.bnd; rw [if_neg (by rw [hi]; simp), if_neg (by rw [hj]; simp)]]
      clear h hi hj
      go_enter Tryz.func85, Tryz.ntmps85
      go_wp2_with fail
      with_reducible refine (H1.out).mono ?_
      rintro e w1 ⟨rfl, hb1⟩
      have HB1 := Lib.hid hb1
      obtain ⟨c0, hx1⟩ := HC.out w1 hb1
      clear hb1
      go_wp2_with fail
      with_reducible refine (H2.out w1 HB1.out).mono ?_
      rintro e w2 ⟨rfl, hb2⟩
      have HB2 := Lib.hid (HB1.out.trans (hb2.mono HB1.out.size))
      clear hb2
      go_wp2_with fail
      refine (prefuse_any w2 (H.out.below HB2.out)).mono ?_
      rintro e w3 ⟨rfl, hM, hF⟩
      have HM := Lib.hid hM
      have HF := Lib.hid ((Fx.of (X := X2 xb rb) HB2.out).trans hF)
      clear hM hF
      go_wp2
      go_ret
      exact ⟨rfl, HM.out, HF.out⟩
end
end
section
open Go.RowKit

def zc6 : List Value := [.string ⟨#[]⟩, .string ⟨#[]⟩, .string ⟨#[]⟩, .slice none 0 0, .int .i64 0, .int .i64 0]
/-- A question's six cells. -/
def qc (k : ByteArray) (v : FV) (q : Nat) : List Value := [.string k, .string v.o, .string v.nm, .slice v.A v.ll v.cap, .int .i64 v.p, .int .i64 (q : Int)]
section
variable {w w' : World} {q : Nat} {c0 c1 c2 c3 c4 c5 x0 x1 x2 x3 x4 x5 : Value}
theorem Bx.cells6 {t : TypeId} (h : Bx w q t [c0, c1, c2, c3, c4, c5]) : w.cell? ⟨q, 0, none⟩ = some c0 ∧ w.cell? ⟨q, 1, none⟩ = some c1 ∧ w.cell? ⟨q, 2, none⟩ = some c2 ∧ w.cell? ⟨q, 3, none⟩ = some c3 ∧ w.cell? ⟨q, 4, none⟩ = some c4 ∧ w.cell? ⟨q, 5, none⟩ = some c5 := ⟨h.cell 0, h.cell 1, h.cell 2, h.cell 3, h.cell 4, h.cell 5⟩
theorem Bx.frozen6 {t : TypeId} (h : Bx w q t [c0, c1, c2, c3, c4, c5]) : w.frozen? ⟨q, 0, none⟩ = false ∧ w.frozen? ⟨q, 1, none⟩ = false ∧ w.frozen? ⟨q, 2, none⟩ = false ∧ w.frozen? ⟨q, 3, none⟩ = false ∧ w.frozen? ⟨q, 4, none⟩ = false ∧ w.frozen? ⟨q, 5, none⟩ = false := ⟨h.frozen 0, h.frozen 1, h.frozen 2, h.frozen 3, h.frozen 4, h.frozen 5⟩
theorem Bx.set6 {t : TypeId} (h : Bx w q t [c0, c1, c2, c3, c4, c5]) : Bx ((((((w.setCell ⟨q, 0, none⟩ x0).setCell ⟨q, 1, none⟩ x1).setCell ⟨q, 2, none⟩ x2).setCell ⟨q, 3, none⟩ x3).setCell ⟨q, 4, none⟩ x4).setCell ⟨q, 5, none⟩ x5) q t [x0, x1, x2, x3, x4, x5] := (((((h.set 0 x0).set 1 x1).set 2 x2).set 3 x3).set 4 x4).set 5 x5
end
/-- What a call that reads a question leaves. -/
def QnP (xb rb b D : Nat) (r : Qr × St) (w : World) (e : Ending) (w' : World) : Prop :=
  ∃ v : FV, e = .returned (.agg #[.string ⟨r.1.kind.toArray⟩, .string v.o, .string v.nm, .slice v.A v.ll v.cap, .int .i64 v.p, .int .i64 (r.1.pos : Int)]) ∧ FO w' (w.heap.size + 1) w'.heap.size r.1.f v ∧ PRd w' xb rb b D r.2 ∧ Fx (X2 xb rb) w w'
theorem extr_len (st : St) : st.extr.1.length ≤ 4 := by
  unfold St.extr
  split
  · simp [wMin]
  · split
    · simp [wMax]
    · simp
theorem bnd_len (st : St) : st.bnd.1.length ≤ 2 := by
  unfold St.bnd
  split
  · simp
  · split
    · simp
    · simp
theorem bytes_app (a b : List UInt8) : (⟨a.toArray⟩ : ByteArray) ++ ⟨b.toArray⟩ = ⟨(a ++ b).toArray⟩ := by apply ByteArray.ext; simp
section
variable {xb rb b D : Nat} {st : St}
set_option maxHeartbeats 4000000 in
theorem pquest_any {l : Nat} (w : World) (h : PRd w xb rb b l st) : Calls Tryz.prog 64 #[.pointer (some ⟨xb, 0, none⟩)] w (QnP xb rb b l (st.qst l) w) := by
  have hx := h.ltx
  have c0 := h.c0
  have H := Lib.hid h
  have HP := Lib.hid (fun (W : World) (hW : PRd W xb rb b l st) => hW.peek)
  have HF0 := Lib.hid (form_any l)
  have hf0 := field0
  have hf1 := field1
  have hf2 := field2
  have hl1 := extr_len st
  have hl2 := bnd_len st.extr.2
  obtain ⟨e1, he1⟩ : ∃ e1 : ByteArray, e1 = ⟨st.extr.1.toArray⟩ := ⟨_, rfl⟩
  obtain ⟨e2, he2⟩ : ∃ e2 : ByteArray, e2 = ⟨st.extr.2.bnd.1.toArray⟩ := ⟨_, rfl⟩
  have hz1 : e1.size ≤ 4 := by rw [he1]; show st.extr.1.toArray.size ≤ 4; simpa using hl1
  have hz2 : e2.size ≤ 2 := by rw [he2]; show st.extr.2.bnd.1.toArray.size ≤ 2; simpa using hl2
  have n1 : ¬ 9223372036854775807 < e1.size + e2.size := by omega
  have HE := Lib.hid (show e1 ++ e2 = ⟨(st.qst l).1.kind.toArray⟩ by rw [he1, he2, bytes_app, qst_kind])
  have H1 := Lib.hid (fun (W : World) (hW : PRd W xb rb b l st) => (he1 ▸ pextr_any W hW : Calls Tryz.prog 84 #[.pointer (some ⟨xb, 0, none⟩)] W (fun e w' => e = .returned (.string e1) ∧ PRd w' xb rb b l st.extr.2 ∧ Fx (X2 xb rb) W w')))
  have H2 := Lib.hid (fun (W : World) (hW : PRd W xb rb b l st.extr.2) => (he2 ▸ pbnd_any W hW : Calls Tryz.prog 85 #[.pointer (some ⟨xb, 0, none⟩)] W (fun e w' => e = .returned (.string e2) ∧ PRd w' xb rb b l st.extr.2.bnd.2 ∧ Fx (X2 xb rb) W w')))
  have HQ := Lib.hid (show (st.qst l).1.f = (formS (dq l) (st.extr.2.bnd.2.want [91])).1 ∧ (st.qst l).2 = (((formS (dq l) (st.extr.2.bnd.2.want [91])).2).want [93]).want [59] ∧ (st.qst l).1.pos = st.hd.pos by rw [qst_f, qst_two, body_two]; exact ⟨rfl, rfl, by rw [St.qst]⟩)
  clear h hl1 hl2 he1 he2 hz1 hz2
  generalize hR : st.qst l = R at HE HQ ⊢
  clear hR
  go_enter Tryz.func64, Tryz.ntmps64
  have hne := World.new_ne w ⟨xb, 0, none⟩ c0
  go_wp2_with fail
  refine calls_gen (P := fun W => PRd W xb rb b l st ∧ Bx W w.heap.size 53 zc6 ∧ Fx (X2 xb rb) w W) ⟨H.out.alloc _, Bx.new w 53 zc6, (Fx.refl _ _).alloc _⟩ ?_
  rintro W ⟨hM, hB, hF⟩
  refine (HP.out W hM).mono ?_
  rintro e w1 ⟨rfl, hb1⟩
  have hs1 := hB.lt
  have hz1 := hb1.size
  have HM1 := Lib.hid (hM.below hb1)
  have HB1 := Lib.hid (hB.below hb1)
  have HF1 := Lib.hid (hF.on hb1)
  have hlt : w.heap.size < w1.heap.size := by omega
  have hnq : w.heap.size ≠ w1.heap.size := by omega
  clear hM hB hF hb1
  go_wp2_with fail
  refine calls_gen (P := fun W1 => PRd W1 xb rb b l st ∧ Bx W1 w.heap.size 53 zc6 ∧ Bx W1 w1.heap.size 53 [.string ⟨#[]⟩, .string ⟨#[]⟩, .string ⟨#[]⟩, .slice none 0 0, .int .i64 0, .int .i64 (st.hd.pos : Int)] ∧ Fx (X2 xb rb) w W1) ⟨HM1.out.alloc _, HB1.out.alloc _, Bx.new w1 53 [.string ⟨#[]⟩, .string ⟨#[]⟩, .string ⟨#[]⟩, .slice none 0 0, .int .i64 0, .int .i64 (st.hd.pos : Int)], HF1.out.alloc _⟩ ?_
  rintro W1 ⟨hM, hB, hC, hF⟩
  refine (H1.out W1 hM).mono ?_
  rintro e w2 ⟨rfl, hM2, hF2⟩
  have hsC := hC.lt
  have hsz2 := hF2.size
  have HM2 := Lib.hid hM2
  have HB2 := Lib.hid (hB.fx hF2 (H.out.n2 (Nat.le_refl _)))
  have HC2 := Lib.hid (hC.fx hF2 (H.out.n2 (by omega)))
  have HF2 := Lib.hid (hF.trans hF2)
  clear hM hB hC hF hM2 hF2
  go_wp2_with fail
  refine (H2.out w2 HM2.out).mono ?_
  rintro e w3 ⟨rfl, hM3, hF3⟩
  have hsz3 := hF3.size
  have hC3 := HC2.out.fx hF3 (H.out.n2 (by omega))
  have HM3 := Lib.hid hM3
  have HB3 := Lib.hid (HB2.out.fx hF3 (H.out.n2 (Nat.le_refl _)))
  have HC3 := Lib.hid hC3
  have HF3 := Lib.hid (HF2.out.trans hF3)
  obtain ⟨y0, y1, y2, y3, y4, y5⟩ := Bx.frozen6 hC3
  obtain ⟨d0, d1, d2, d3, d4, d5⟩ := Bx.cells6 hC3
  have hl3 := hC3.lt
  clear hM3 hF3 hC3
  go_wp2_with fail
  refine calls_gen (P := fun W2 => PRd W2 xb rb b l st.extr.2.bnd.2 ∧ Bx W2 w.heap.size 53 zc6 ∧ Bx W2 w1.heap.size 53 [.string (e1 ++ e2), .string ⟨#[]⟩, .string ⟨#[]⟩, .slice none 0 0, .int .i64 0, .int .i64 (st.hd.pos : Int)] ∧ Fx (X2 xb rb) w W2) ⟨HM3.out.set HC3.out (by unfold RpT; decide) (by have := H.out.lo2; omega) _, HB3.out.far (p := ⟨w1.heap.size, 0, none⟩) hnq _, HC3.out.set 0 _, HF3.out.setCell (p := ⟨w1.heap.size, 0, none⟩) (.inl (by show w.heap.size ≤ w1.heap.size; omega)) _⟩ ?_
  clear y0 y1 y2 y3 y4 y5 d0 d1 d2 d3 d4 d5 hl3 HM3 HB3 HC3 HF3 HM2 HB2 HC2 HF2
  rintro W2 ⟨hM, hB, hC, hF⟩
  have hsC4 := hC.lt
  refine (pwant_any ⟨#[91]⟩ W2 hM).mono ?_
  rintro e w4 ⟨rfl, hM4, hF4⟩
  have hsz4 := hF4.size
  have HM4 := Lib.hid hM4
  have HB4 := Lib.hid (hB.fx hF4 (H.out.n2 (Nat.le_refl _)))
  have HC4 := Lib.hid (hC.fx hF4 (H.out.n2 (by omega)))
  have HF4 := Lib.hid (hF.trans hF4)
  clear hM hB hC hF hM4 hF4
  go_wp2_with fail
  refine (HF0.out xb rb b _ w4 HM4.out).mono ?_
  rintro e w5 ⟨v, rfl, hO5, hM5, hF5⟩
  have hsz5 := hF5.size
  have hC5 := HC4.out.fx hF5 (H.out.n2 (by omega))
  have HM5 := Lib.hid hM5
  have HO5 := Lib.hid hO5
  have HB5 := Lib.hid (HB4.out.fx hF5 (H.out.n2 (Nat.le_refl _)))
  have HC5 := Lib.hid hC5
  have HF5 := Lib.hid (HF4.out.trans hF5)
  obtain ⟨y0, y1, y2, y3, y4, y5⟩ := Bx.frozen6 hC5
  obtain ⟨d0, d1, d2, d3, d4, d5⟩ := Bx.cells6 hC5
  have hl5 := hC5.lt
  clear hM5 hF5 hC5 hO5
  go_wp2_with fail
  refine calls_gen (P := fun W3 => PRd W3 xb rb b l (formS (dq l) (st.extr.2.bnd.2.want [91])).2 ∧ FO W3 (w4.heap.size + 1) w5.heap.size (formS (dq l) (st.extr.2.bnd.2.want [91])).1 v ∧ Bx W3 w.heap.size 53 zc6 ∧ Bx W3 w1.heap.size 53 (qc (e1 ++ e2) v st.hd.pos) ∧ Fx (X2 xb rb) w W3 ∧ w5.heap.size ≤ W3.heap.size)
    ⟨PRd.setL (us := [.string v.o, .string v.nm, .slice v.A v.ll v.cap, .int .i64 v.p]) (i := 1) (by unfold RpT; decide) (by have := H.out.lo2; omega) HM5.out HC5.out,
     FOS.setL (us := [.string v.o, .string v.nm, .slice v.A v.ll v.cap, .int .i64 v.p]) (i := 1) HO5.out (by unfold Rg; omega),
     HB5.out.farL (us := [.string v.o, .string v.nm, .slice v.A v.ll v.cap, .int .i64 v.p]) (i := 1) hnq,
     Bx.setL (us := [.string v.o, .string v.nm, .slice v.A v.ll v.cap, .int .i64 v.p]) (i := 1) HC5.out,
     Fx.setL (us := [.string v.o, .string v.nm, .slice v.A v.ll v.cap, .int .i64 v.p]) (i := 1) (.inl (by omega)) HF5.out,
     by simp⟩ ?_
  clear y0 y1 y2 y3 y4 y5 d0 d1 d2 d3 d4 d5 hl5 HM5 HB5 HC5 HF5 HO5 HM4 HB4 HC4 HF4
  rintro W3 ⟨hM, hO, hB, hC, hF, hzz⟩
  have hsC6 := hC.lt
  refine (pwant_any ⟨#[93]⟩ W3 hM).mono ?_
  rintro e w6 ⟨rfl, hM6, hF6⟩
  have hsz6 := hF6.size
  have HM6 := Lib.hid hM6
  have HO6 := Lib.hid (hO.fx hF6 (fun j hj => H.out.n2 (by unfold Rg at hj; omega)))
  have HB6 := Lib.hid (hB.fx hF6 (H.out.n2 (Nat.le_refl _)))
  have HC6 := Lib.hid (hC.fx hF6 (H.out.n2 (by omega)))
  have HF6 := Lib.hid (hF.trans hF6)
  clear hM hB hC hF hO hM6 hF6
  go_wp2_with fail
  refine (pwant_any ⟨#[59]⟩ w6 HM6.out).mono ?_
  rintro e w7 ⟨rfl, hM7, hF7⟩
  have hsz7 := hF7.size
  have hB7 := HB6.out.fx hF7 (H.out.n2 (Nat.le_refl _))
  have hC7 := HC6.out.fx hF7 (H.out.n2 (by omega))
  have HM7 := Lib.hid hM7
  have HO7 := Lib.hid (HO6.out.fx hF7 (fun j hj => H.out.n2 (by unfold Rg at hj; omega)))
  have HB7 := Lib.hid hB7
  have HC7 := Lib.hid hC7
  have HF7 := Lib.hid (HF6.out.trans hF7)
  obtain ⟨y0, y1, y2, y3, y4, y5⟩ := Bx.frozen6 hB7
  obtain ⟨b0, b1, b2, b3, b4, b5⟩ := Bx.cells6 hB7
  obtain ⟨d0, d1, d2, d3, d4, d5⟩ := Bx.cells6 hC7
  have hl7 := hB7.lt
  have hl8 := hC7.lt
  clear hM7 hF7 hB7 hC7 HM6 HO6 HB6 HC6 HF6
  go_wp2
  obtain ⟨z0, z1, z2, z3, z4, z5⟩ := (Bx.set6 (x0 := .string (e1 ++ e2)) (x1 := .string v.o) (x2 := .string v.nm) (x3 := .slice v.A v.ll v.cap) (x4 := .int .i64 v.p) (x5 := .int .i64 (st.hd.pos : Int)) HB7.out).cells6
  obtain ⟨q1, q2, q3⟩ := HQ.out
  refine bodyPost_ret (v := .agg #[.string (e1 ++ e2), .string v.o, .string v.nm, .slice v.A v.ll v.cap, .int .i64 v.p, .int .i64 (st.hd.pos : Int)]) (by simp [results, Tryz.results64, go_sem, z0, z1, z2, z3, z4, z5]) rfl ⟨v, by rw [HE.out, q3], ?_, ?_, ?_⟩
  · rw [q1]
    exact (FOS.setL (us := [.string (e1 ++ e2), .string v.o, .string v.nm, .slice v.A v.ll v.cap, .int .i64 v.p, .int .i64 (st.hd.pos : Int)]) (q := w.heap.size) (i := 0) HO7.out (by unfold Rg; omega)).wide (fun j hj hS => ⟨by have := hS.1; omega, by have := hS.2; simp; omega⟩)
  · rw [q2]
    exact PRd.setL (us := [.string (e1 ++ e2), .string v.o, .string v.nm, .slice v.A v.ll v.cap, .int .i64 v.p, .int .i64 (st.hd.pos : Int)]) (q := w.heap.size) (i := 0) (by unfold RpT; decide) (H.out.lo2) HM7.out HB7.out
  · exact Fx.setL (us := [.string (e1 ++ e2), .string v.o, .string v.nm, .slice v.A v.ll v.cap, .int .i64 v.p, .int .i64 (st.hd.pos : Int)]) (q := w.heap.size) (i := 0) (.inl (Nat.le_refl _)) HF7.out
end
end
section
open Go.RowKit

/-- All is kept from a block on, but for some types. -/
def KtQ (b : Nat) (E : TypeId → Prop) (w w' : World) : Prop := ∀ (k : Nat) (cs : Array Value) (e : TypeId), b ≤ k → w.heap[k]? = some (.cells cs e (0, 0)) → ¬ E e → w'.heap[k]? = w.heap[k]?
def EQ0 (_ : TypeId) : Prop := False
section
variable {b b' : Nat} {E : TypeId → Prop} {w w' : World}
theorem KtQ.below (h : Below w.heap.size w w') : KtQ b E w w' := fun k _ _ _ h1 _ => h.block k (blk_lt h1)
theorem KtQ.fx {X : Nat → Prop} (h : Fx X w w') (hx : ∀ k, X k → k < b) : KtQ b E w w' := fun k _ _ hk h1 _ => h.block k (blk_lt h1) (fun e => absurd (hx k e) (by omega))
theorem KtQ.grown {row : Option Nat} {t : TypeId} (hg : w.grownBy w' row) (hr : ∀ g, row = some g → ∃ cs : Array Value, w.heap[g]? = some (.cells cs t (0, 0))) : KtQ b (fun e => e = t) w w' := by
  intro k cs e hk h1 h2
  refine hg.block k (blk_lt h1) (fun e1 => ?_)
  obtain ⟨cs', h3⟩ := hr k e1.symm
  rw [h1] at h3
  injection h3 with h3
  injection h3 with _ h3
  exact h2 h3
end
/-- Parts one behind the other. -/
def LHQ (P : Qr → List Value → Prop) : List Qr → List Value → Prop
  | [], cs => cs = []
  | a :: xs, cs => ∃ c r, cs = c ++ r ∧ P a c ∧ LHQ P xs r
section
variable {P Q : Qr → List Value → Prop}
theorem LHQ.snoc : ∀ {xs : List Qr} {cs : List Value} {a : Qr} {c : List Value}, LHQ P xs cs → P a c → LHQ P (xs ++ [a]) (cs ++ c)
  | [], _, a, c, h, ha => by rw [show _ = [] from h]; exact ⟨c, [], by simp, ha, rfl⟩
  | _ :: _, _, _, _, ⟨c0, r, h1, h2, h3⟩, ha => ⟨c0, r ++ _, by rw [h1, List.append_assoc], h2, h3.snoc ha⟩
theorem LHQ.imp (hi : ∀ a c, P a c → Q a c) : ∀ {xs : List Qr} {cs : List Value}, LHQ P xs cs → LHQ Q xs cs
  | [], _, h => h
  | _ :: _, _, ⟨c0, r, h1, h2, h3⟩ => ⟨c0, r, h1, hi _ _ h2, h3.imp hi⟩
end
/-- A question in memory, from a block on. -/
def QH (w : World) (b : Nat) (q : Qr) (c : List Value) : Prop := ∃ v : FV, c = qc ⟨q.kind.toArray⟩ v q.pos ∧ FOS w (fun k => b ≤ k) q.f v
theorem QH.keep {w w' : World} {b : Nat} {E : TypeId → Prop} {q : Qr} {c : List Value} (h : QH w b q c) (hk : KtQ b E w w') (he : ¬ E 25) : QH w' b q c := by
  obtain ⟨v, h1, h2⟩ := h
  exact ⟨v, h1, h2.keepY fun k cs hS hc => hk k cs 25 hS hc he⟩
def RowQ (w : World) (b : Nat) (xs : List Qr) (v : Value) : Prop := ∃ cs, w.ownsRow b 53 6 v xs.length cs ∧ LHQ (QH w b) xs cs
theorem ownQ_kt {w w' : World} {b : Nat} {t : TypeId} {sz n : Nat} {v : Value} {cs : List Value} {E : TypeId → Prop} (h : w.ownsRow b t sz v n cs) (hk : KtQ b E w w') (he : ¬ E t) : w'.ownsRow b t sz v n cs := by
  refine ⟨h.1, ?_⟩
  rcases h.2 with h | ⟨g, cap, cur, h1, h2, h3, h4⟩
  · exact .inl h
  · exact .inr ⟨g, cap, cur, h1, h2, (hk g cur t h2 h3 he).trans h3, h4⟩
theorem ownQ_typ {w : World} {b : Nat} {t : TypeId} {sz n : Nat} {v : Value} {cs : List Value} (h : w.ownsRow b t sz v n cs) : ∀ g, v.ownBlock = some g → b ≤ g ∧ ∃ cur : Array Value, w.heap[g]? = some (.cells cur t (0, 0)) := by
  intro g hg
  rcases h.2 with ⟨rfl, _⟩ | ⟨g', cap, cur, rfl, h2, h3, _⟩
  · simp [Value.ownBlock] at hg
  · have : g' = g := by simpa [Value.ownBlock] using hg
    subst this
    exact ⟨h2, cur, h3⟩
theorem ownQ_forms {w : World} {base size n : Nat} {e : TypeId} {v : Value} {xs : List Value} (h : w.ownsRow base e size v n xs) : (v = .slice none 0 0 ∧ n = 0) ∨ ∃ g cap, v = .slice (some ⟨g, 0, none⟩) n cap := by
  rcases h.2 with ⟨h1, h2⟩ | ⟨g, cap, cur, h1, _⟩
  · exact .inl ⟨h1, h2⟩
  · exact .inr ⟨g, cap, h1⟩
section
variable {w w' : World} {b : Nat} {xs : List Qr} {v : Value}
theorem RowQ.keep {E : TypeId → Prop} (h : RowQ w b xs v) (hk : KtQ b E w w') (e1 : ¬ E 53) (e2 : ¬ E 25) : RowQ w' b xs v := by
  obtain ⟨cs, h1, h2⟩ := h
  exact ⟨cs, ownQ_kt h1 hk e1, h2.imp fun _ _ h => h.keep hk e2⟩
theorem RowQ.below (h : RowQ w b xs v) (hb : Below w.heap.size w w') : RowQ w' b xs v := h.keep (E := EQ0) (KtQ.below hb) id id
theorem RowQ.nil (w : World) (b : Nat) : RowQ w b [] (.slice none 0 0) := ⟨[], World.ownsRow_nil _ _ _ _, rfl⟩
theorem RowQ.form (h : RowQ w b xs v) : ∃ A cap, v = .slice A xs.length cap := by
  obtain ⟨cs, h1, _⟩ := h
  rcases ownQ_forms h1 with ⟨rfl, h0⟩ | ⟨g, cap, rfl⟩
  · exact ⟨none, 0, by rw [h0]⟩
  · exact ⟨_, _, rfl⟩
end
theorem Fx.grownQ {X : Nat → Prop} {a w w' : World} {row : Option Nat} (h : Fx X a w) (hg : w.grownBy w' row) (hr : ∀ g, row = some g → X g ∨ a.heap.size ≤ g) : Fx X a w' :=
  ⟨hg.os.trans h.os, hg.tape.trans h.tape, hg.output.trans h.output, Nat.le_trans h.size hg.size, fun k hk hn => (hg.block k (Nat.lt_of_lt_of_le hk h.size) (fun e => by rcases hr k e.symm with hx | hx; exact hn hx; omega)).trans (h.block k hk hn)⟩
theorem PRd.len {w : World} {xb rb b D : Nat} {st : St} (h : PRd w xb rb b D st) : st.len ≤ 65537 := by
  cases st with
  | bad c p => exact Nat.zero_le _
  | good us =>
    have hT : TR w rb us := h.tr
    obtain ⟨ts, k, h1, g, cap, _, _, _, q4⟩ := hT.rd
    show us.length ≤ 65537
    rw [h1, List.length_drop]
    omega
theorem Bx.cell_addQ {w : World} {q : Nat} {t : TypeId} {cs : List Value} (h : Bx w q t cs) {j : Nat} {u : Value} (hj : cs[j]? = some u) : w.cell? ((⟨q, 0, none⟩ : Addr).add j) = some u := by
  have e : (⟨q, 0, none⟩ : Addr).add j = ⟨q, j, none⟩ := by
    unfold Addr.add
    by_cases h0 : j = 0 <;> simp [h0]
  rw [e, h.cell, hj]
theorem ret_sliceQ {A : Option Addr} {m n cap : Nat} (h : m = n) : Ending.returned (.slice A m cap) = .returned (.slice A n cap) := by rw [h]
/-- What holds in the loop. -/
structure QsR (l xb rb b : Nat) (tot : List Qr × St) (w : World) (acc : List Qr) (st1 : St) (v : Value) (wr : World) : Prop where
  row : RowQ wr w.heap.size acc v
  mr : PRd wr xb rb b l st1
  tot : (acc ++ (st1.qsts l).1, (st1.qsts l).2) = tot
  fx : Fx (X2 xb rb) w wr
  len : acc.length + st1.len ≤ 200000
def QsRel (l xb rb b : Nat) (tot : List Qr × St) (w : World) (gk : Nat) (v : Value) (wr : World) : Prop := ∃ acc st1, gk = st1.len ∧ QsR l xb rb b tot w acc st1 v wr
def QsP (xb rb b D : Nat) (tot : List Qr × St) (w : World) (e : Ending) (w' : World) : Prop :=
  ∃ A cap, e = .returned (.slice A tot.1.length cap) ∧ RowQ w' w.heap.size tot.1 (.slice A tot.1.length cap) ∧ PRd w' xb rb b D tot.2 ∧ Fx (X2 xb rb) w w'
theorem qsts_go {l : Nat} {st : St} (h : qMore st.hd = true) : st.qsts l = ((st.qst l).1 :: ((st.qst l).2.qsts l).1, ((st.qst l).2.qsts l).2) := list_go (qst_dec l) h
theorem qsts_end {l : Nat} {st : St} (h : qMore st.hd = false) : st.qsts l = ([], st) := list_end h
section
variable {l xb rb b : Nat} {tot : List Qr × St} {w : World} {acc : List Qr} {st1 : St} {v : Value} {wr : World}
/-- A question has been read and is laid behind the others. -/
theorem QsR.step (hp : qMore st1.hd = true) (h : QsR l xb rb b tot w acc st1 v wr) (hb : b ≤ w.heap.size)
    {wA w' : World} {c cs : List Value} {v' : Value} (hO : wA.ownsRow w.heap.size 53 6 v acc.length cs) (hL : LHQ (QH wA w.heap.size) acc cs) (hE : QH wA w.heap.size (st1.qst l).1 c) (hM : PRd wA xb rb b l (st1.qst l).2) (hF : Fx (X2 xb rb) w wA)
    (hO' : w'.ownsRow w.heap.size 53 6 v' (acc.length + 1) (cs ++ c)) (hg : (wA.alloc (.cells c.toArray 53)).grownBy w' v.ownBlock) :
    QsR l xb rb b tot w (acc ++ [(st1.qst l).1]) (st1.qst l).2 v' w' := by
  have hba : Below wA.heap.size wA (wA.alloc (.cells c.toArray 53)) := (Below.refl _ _).alloc (Nat.le_refl _) _
  have hO1 := ownQ_kt hO (KtQ.below (E := EQ0) hba) id
  have hkt : KtQ w.heap.size (fun e => e = 53) wA w' := fun k cs e hk h1 h2 => by
    have h3 := (KtQ.below (b := w.heap.size) (E := EQ0) hba) k cs e hk h1 id
    exact (KtQ.grown (b := w.heap.size) hg (fun g hg' => (ownQ_typ hO1 g hg').2) k cs e hk (h3.trans h1) h2).trans h3
  have hne : ¬ (25 = 53) := by decide
  refine ⟨⟨cs ++ c, by rw [show (acc ++ [(st1.qst l).1]).length = acc.length + 1 by simp]; exact hO', ?_⟩, (hM.alloc _).grown hg (fun g hg' => ?_), ?_, (hF.alloc _).grownQ hg (fun g hg' => ?_), ?_⟩
  · exact (hL.imp (fun a c h => h.keep hkt hne)).snoc (hE.keep hkt hne)
  · obtain ⟨h1, cur, h2⟩ := ownQ_typ hO1 g hg'
    exact ⟨Nat.le_trans hb h1, cur, 53, h2, by unfold RpT; decide⟩
  · have := h.tot
    rw [qsts_go hp] at this
    simpa using this
  · exact .inr (ownQ_typ hO1 g hg').1
  · have := h.len
    have := (qst_dec l st1 hp).1
    have h3 : (st1.qst l).2.len < st1.len := this
    simp only [List.length_append, List.length_singleton]
    omega
end
theorem info_qu : (Tryz.prog.info? 53).map (fun i => (i.zero, i.size, i.bytes)) = some (some (.agg #[.string ⟨#[]⟩, .string ⟨#[]⟩, .string ⟨#[]⟩, .slice none 0 0, .int .i64 0, .int .i64 0]), 6, 88) := by kernel_rfl
section
variable {xb rb b : Nat} {st : St}
set_option maxHeartbeats 4000000 in
set_option maxRecDepth 100000 in
theorem pquests_any {l : Nat} (w : World) (h : PRd w xb rb b l st) : Calls Tryz.prog 39 #[.pointer (some ⟨xb, 0, none⟩)] w (QsP xb rb b l (st.qsts l) w) := by
  obtain ⟨i0, hi0, hz⟩ := Option.map_eq_some_iff.1 info_qu
  simp only [Prod.mk.injEq] at hz
  obtain ⟨hz0, hz1, hz2⟩ := hz
  have HZ0 := Lib.hid hz0
  have HZ1 := Lib.hid hz1
  have HZ2 := Lib.hid hz2
  have HI := Lib.hid hi0
  obtain ⟨tot, htot⟩ : ∃ tot, tot = st.qsts l := ⟨_, rfl⟩
  rw [← htot]
  have hx0 := h.ltx
  have hr0 := h.hr
  have hb0 := h.lo2
  have HR0 := Lib.hid (show QsRel l xb rb b tot w st.len (.slice none 0 0) w from ⟨[], st, rfl, RowQ.nil _ _, h, by rw [htot]; simp, Fx.refl _ _, by have := h.len; simp; omega⟩)
  clear hz0 hz1 hz2 hi0 h htot
  go_enter Tryz.func39, Tryz.ntmps39
  go_wp2
  go_loopg [3] st.len (fun gk v wr => QsRel l xb rb b tot w gk v wr)
  case atStart => exact HR0.out
  case round =>
    clear HR0
    obtain ⟨acc, st1, rfl, hL⟩ := hrel
    obtain ⟨A1, cap1, hv1⟩ := hL.row.form
    subst hv1
    have HL := Lib.hid hL
    clear hL
    obtain ⟨N, hN⟩ : ∃ N, N = acc.length := ⟨_, rfl⟩
    have HNN := Lib.hid hN
    rw [← hN]
    clear hN
    cases hp : qMore st1.hd with
    | false =>
      have HK := Lib.hid (show decide (st1.hd.kind = 0) = true from decide_eq_true (qmore_no hp))
      have HT := Lib.hid (show acc = tot.1 ∧ st1 = tot.2 by
        have := HL.out.tot
        rw [qsts_end hp] at this
        rw [← this]; simp)
      clear hp
      go_wp2_with fail
      refine (pisend_any wr HL.out.mr).mono ?_
      rintro e w1 ⟨rfl, hb1'⟩
      rw [HK.out]
      have HB1 := Lib.hid hb1'
      clear hb1'
      go_wp2
      go_ret
      obtain ⟨e1, e2⟩ := HT.out
      have hN := HNN.out
      subst e1 e2
      exact ⟨A1, cap1, ret_sliceQ hN, HL.out.row.below HB1.out, HL.out.mr.below HB1.out, HL.out.fx.on HB1.out⟩
    | true =>
      have HK := Lib.hid (show decide (st1.hd.kind = 0) = false from decide_eq_false (qmore_kind hp))
      have HP := Lib.hid hp
      have HLT := Lib.hid ((qst_dec l st1 hp).1)
      clear hp
      go_wp2_with fail
      refine (pisend_any wr HL.out.mr).mono ?_
      rintro e w1 ⟨rfl, hb1'⟩
      rw [HK.out]
      have HM1 := Lib.hid (HL.out.mr.below hb1')
      have HK1 := Lib.hid (Fx.of (X := X2 xb rb) hb1')
      have HF1 := Lib.hid (HL.out.fx.on hb1')
      have hs1 := HF1.out.size
      clear hb1'
      go_wp2_with fail
      refine (pquest_any w1 HM1.out).mono ?_
      rintro e wA ⟨v, rfl, hX, hMA, hFA⟩
      have hFA' : Fx (X2 xb rb) w wA := HF1.out.trans hFA
      have hkt : KtQ w.heap.size EQ0 wr wA := KtQ.fx (HK1.out.trans hFA) (fun k hk => by rcases hk with rfl | rfl <;> omega)
      obtain ⟨cs, hO, hLH⟩ := HL.out.row
      have HO := Lib.hid (ownQ_kt hO hkt id)
      have HLH := Lib.hid (hLH.imp (Q := QH wA w.heap.size) (fun _ _ h => h.keep hkt id))
      have HE := Lib.hid (show QH wA w.heap.size (st1.qst l).1 [.string ⟨(st1.qst l).1.kind.toArray⟩, .string v.o, .string v.nm, .slice v.A v.ll v.cap, .int .i64 v.p, .int .i64 (((st1.qst l).1.pos : Nat) : Int)] from ⟨v, rfl, FOS.wide hX (fun k _ hk => by unfold Rg at hk; omega)⟩)
      have HMA := Lib.hid hMA
      have HFA := Lib.hid hFA'
      have hbA : w.heap.size ≤ wA.heap.size := hFA'.size
      have hNl : N ≤ 200000 := by rw [HNN.out]; have := HL.out.len; omega
      rw [← HNN.out] at HO
      have HOA := Lib.hid (ownQ_kt HO.out (KtQ.below (E := EQ0) ((Below.refl wA.heap.size wA).alloc (Nat.le_refl _) (.cells #[.string ⟨(st1.qst l).1.kind.toArray⟩, .string v.o, .string v.nm, .slice v.A v.ll v.cap, .int .i64 v.p, .int .i64 (((st1.qst l).1.pos : Nat) : Int)] 53))) id)
      clear hO hLH hMA hFA hFA' hkt hX
      go_wp2_with (at_builtin; refine wpList_append_lies _ rfl _ _ 46 rfl w.heap.size 53 i0 (.agg #[.string ⟨#[]⟩, .string ⟨#[]⟩, .string ⟨#[]⟩, .slice none 0 0, .int .i64 0, .int .i64 0]) 6 88 Tryz.underlying46 HI.out HZ0.out HZ1.out HZ2.out rfl (by decide) _ _ _ rfl HOA.out ⟨wA.heap.size, 0, none⟩ 1 1 [.string ⟨(st1.qst l).1.kind.toArray⟩, .string v.o, .string v.nm, .slice v.A v.ll v.cap, .int .i64 v.p, .int .i64 (((st1.qst l).1.pos : Nat) : Int)] rfl rfl ?c1 ?c2 (by omega) ?c3 ?c4 ?c5 (wA.heap.size + 1) (by simp) ?_)
      case c1 => intro j u hj; exact (Bx.new wA 53 [.string ⟨(st1.qst l).1.kind.toArray⟩, .string v.o, .string v.nm, .slice v.A v.ll v.cap, .int .i64 v.p, .int .i64 (((st1.qst l).1.pos : Nat) : Int)]).cell_addQ hj
      case c2 => intro u hu; simp only [List.mem_cons, List.not_mem_nil, or_false] at hu; rcases hu with rfl | rfl | rfl | rfl | rfl | rfl <;> rfl
      case c3 => unfold maxLen; omega
      case c4 => omega
      case c5 => simp; omega
      intro g2 cap2 w3 hown3 hgrow3 hat3 hlt3
      have HR3 := Lib.hid (HL.out.step HP.out hb0 (c := [.string ⟨(st1.qst l).1.kind.toArray⟩, .string v.o, .string v.nm, .slice v.A v.ll v.cap, .int .i64 v.p, .int .i64 (((st1.qst l).1.pos : Nat) : Int)]) (by rw [← HNN.out]; exact HO.out) HLH.out HE.out HMA.out HFA.out (by rw [← HNN.out]; exact hown3) (by rw [← HNN.out]; exact hgrow3))
      clear hown3 hgrow3 hat3
      go_wp2
      go_roundg (st1.qst l).2.len
      case measure => exact HLT.out
      case rel => exact ⟨_, _, rfl, HR3.out⟩
end
end
section
open Go.RowKit Go.Sort

/-- What Queries leaves. -/
def QPQ (res : QP) (w : World) (e : Ending) (w' : World) : Prop :=
  match res with
  | .ok L => ∃ A cap, e = .returned (.tuple #[.slice A L.length cap, .nilIface]) ∧ RowQ w' w.heap.size L (.slice A L.length cap) ∧ Below w.heap.size w w'
  | .er c p => ∃ b, e = .returned (.tuple #[.slice none 0 0, .iface 79 (.pointer (some ⟨b, 0, none⟩))]) ∧ AtE w' b p c ∧ Below w.heap.size w w'
theorem qsts_last (l : Nat) : ∀ (n : Nat) (st : St), st.len ≤ n → (st.qsts l).2.hd.kind = 0 := by
  intro n
  induction n with
  | zero =>
    intro st hn
    cases hp : qMore st.hd with
    | false => rw [qsts_end hp]; exact qmore_no hp
    | true => have := extr_lt (qmore_kind hp); omega
  | succ n ih =>
    intro st hn
    cases hp : qMore st.hd with
    | false => rw [qsts_end hp]; exact qmore_no hp
    | true =>
      rw [qsts_go hp]
      have hd1 : (st.qst l).2.len < st.len := (qst_dec l st hp).1
      exact ih _ (by omega)
theorem RowQ.mono {w : World} {b b' : Nat} {xs : List Qr} {v : Value} (h : RowQ w b xs v) (hb : b' ≤ b) : RowQ w b' xs v := by
  obtain ⟨cs, ⟨h1, h2⟩, h3⟩ := h
  refine ⟨cs, ⟨h1, h2.imp id fun ⟨g, cap, cur, h1, h2, h3⟩ => ⟨g, cap, cur, h1, Nat.le_trans hb h2, h3⟩⟩, h3.imp fun a c hh => ?_⟩
  obtain ⟨v, k1, k2⟩ := hh
  exact ⟨v, k1, FOS.wide k2 (fun k _ hk => Nat.le_trans hb hk)⟩
set_option maxHeartbeats 2000000 in
theorem preadq_er {s : ByteArray} {l c p : Nat} (w : World) (hG : GlobS w) (hs : s.size ≤ 65536) (h64 : l + 1 ≤ 64) (htk : toks s.data.toList = .error (c, p)) : Calls Tryz.prog 38 #[.string s, .int .i64 ((l + 1 : Nat) : Int), .func (.func 39) #[] #[]] w (QPQ (.er c p) w) := by
  have g1 : decide ((l : Int) + 1 < 1) = false := by simp; omega
  have g2 : decide ((64 : Int) < (l : Int) + 1) = false := by simp; omega
  have HN := Lib.hid (new_erX w hG hs htk)
  clear hG hs h64 htk
  go_enter Tryz.func38, Tryz.ntmps38
  go_wp2_with fail
  refine (HN.out).mono ?_
  rintro e w1 ⟨b, rfl, hbb, hx, hA, hb⟩
  have HA := Lib.hid hA
  have HB := Lib.hid hb
  clear hA hb
  go_wp2
  go_ret2
  exact ⟨b, rfl, HA.out, HB.out⟩
set_option maxHeartbeats 2000000 in
theorem preadq_ok {s : ByteArray} {l : Nat} {ts : List Tok} {L : List Qr} {us : List Tok} (hf : St.qsts l (.good ts) = (L, .good us)) (w : World) (hG : GlobS w) (hs : s.size ≤ 65536) (h64 : l + 1 ≤ 64) (htk : toks s.data.toList = .ok ts) : Calls Tryz.prog 38 #[.string s, .int .i64 ((l + 1 : Nat) : Int), .func (.func 39) #[] #[]] w (QPQ (.ok L) w) := by
  have g1 : decide ((l : Int) + 1 < 1) = false := by simp; omega
  have g2 : decide ((64 : Int) < (l : Int) + 1) = false := by simp; omega
  have g3 : (l : Int) + 1 - 1 = (l : Int) := by omega
  have h0 : (hd us).kind = 0 := by have := qsts_last l _ (.good ts) (Nat.le_refl _); rw [hf] at this; exact this
  have HG := Lib.hid hG
  have HLO := Lib.hid (glob_lo hG)
  have HN := Lib.hid (new_tr w hG hs htk)
  have hl64 : l ≤ 64 := by omega
  have HFF := Lib.hid hf
  have H0 := Lib.hid h0
  clear hf h0 hG hs h64 htk
  go_enter Tryz.func38, Tryz.ntmps38
  go_wp2_with fail
  refine (HN.out).mono ?_
  rintro e w1 ⟨rb, rfl, hrb, hTR, hb⟩
  have hz1 := hb.size
  have HTR := Lib.hid hTR
  have HF1 := Lib.hid hb
  clear hb hTR
  go_wp2_with fail
  refine calls_gen (P := fun W2 => PRd W2 w1.heap.size rb w.heap.size l (.good ts) ∧ Below w.heap.size w W2) ⟨⟨⟨.nilIface, Bx.new w1 105 [.pointer (some ⟨rb, 0, none⟩), .int .i64 (l : Int), .nilIface], rfl⟩, HTR.out.below ((Below.refl _ _).alloc (Nat.le_refl _) _), (HG.out.below HF1.out).below ((Below.refl _ _).alloc (Nat.le_refl _) _), hl64, HLO.out, ⟨by omega, by omega⟩, by simp; have := HTR.out.ltr; omega⟩, HF1.out.alloc (by omega) _⟩ ?_
  rintro W2 ⟨hM, hF⟩
  have hsz2 := hF.size
  refine (pquests_any W2 hM).mono ?_
  rintro e w3 ⟨A, cap, rfl, hR3, hM3, hF3⟩
  have hbl : Below w.heap.size W2 w3 := fx_low hF3 (by omega) (fun k hk => by rcases hk with rfl | rfl <;> omega)
  have HM3 := Lib.hid hM3
  have HR3 := Lib.hid hR3
  have HF3 := Lib.hid (hF.trans hbl)
  clear hM hF hR3 hM3 hF3 hbl
  go_wp2_with fail
  refine (pisend_any w3 HM3.out).mono ?_
  rintro e w4 ⟨rfl, hb4⟩
  rw [show decide ((St.qsts l (.good ts)).2.hd.kind = 0) = true by rw [HFF.out]; exact decide_eq_true H0.out]
  have hM5 := HM3.out.below hb4
  rw [HFF.out] at hM5
  obtain ⟨vv, c0, c1, c2, z0, z2, hvv⟩ := hM5.cells
  obtain rfl : vv = .nilIface := hvv
  have hx5 := hM5.ltx
  have HR5 := Lib.hid ((HR3.out.below hb4).mono (b' := w.heap.size) hsz2)
  have HF5 := Lib.hid (HF3.out.trans (hb4.mono HF3.out.size))
  have HLn := Lib.hid (show (St.qsts l (.good ts)).1.length = L.length ∧ (St.qsts l (.good ts)).1 = L by rw [HFF.out]; exact ⟨rfl, rfl⟩)
  clear hM5 hb4 HM3 HR3
  go_wp2
  go_ret2
  have hR5 := HR5.out
  rw [HLn.out.2] at hR5
  exact ⟨A, cap, by rw [HLn.out.1]; rfl, hR5, HF5.out⟩
set_option maxHeartbeats 2000000 in
theorem preadq_bad {s : ByteArray} {l : Nat} {ts : List Tok} {c p : Nat} {L : List Qr} (hf : St.qsts l (.good ts) = (L, .bad c p)) (w : World) (hG : GlobS w) (hs : s.size ≤ 65536) (h64 : l + 1 ≤ 64) (htk : toks s.data.toList = .ok ts) : Calls Tryz.prog 38 #[.string s, .int .i64 ((l + 1 : Nat) : Int), .func (.func 39) #[] #[]] w (QPQ (.er c p) w) := by
  have g1 : decide ((l : Int) + 1 < 1) = false := by simp; omega
  have g2 : decide ((64 : Int) < (l : Int) + 1) = false := by simp; omega
  have g3 : (l : Int) + 1 - 1 = (l : Int) := by omega
  have HG := Lib.hid hG
  have HLO := Lib.hid (glob_lo hG)
  have HN := Lib.hid (new_tr w hG hs htk)
  have hl64 : l ≤ 64 := by omega
  have HFF := Lib.hid hf
  clear hf hG hs h64 htk
  go_enter Tryz.func38, Tryz.ntmps38
  go_wp2_with fail
  refine (HN.out).mono ?_
  rintro e w1 ⟨rb, rfl, hrb, hTR, hb⟩
  have hz1 := hb.size
  have HTR := Lib.hid hTR
  have HF1 := Lib.hid hb
  clear hb hTR
  go_wp2_with fail
  refine calls_gen (P := fun W2 => PRd W2 w1.heap.size rb w.heap.size l (.good ts) ∧ Below w.heap.size w W2) ⟨⟨⟨.nilIface, Bx.new w1 105 [.pointer (some ⟨rb, 0, none⟩), .int .i64 (l : Int), .nilIface], rfl⟩, HTR.out.below ((Below.refl _ _).alloc (Nat.le_refl _) _), (HG.out.below HF1.out).below ((Below.refl _ _).alloc (Nat.le_refl _) _), hl64, HLO.out, ⟨by omega, by omega⟩, by simp; have := HTR.out.ltr; omega⟩, HF1.out.alloc (by omega) _⟩ ?_
  rintro W2 ⟨hM, hF⟩
  have hsz2 := hF.size
  refine (pquests_any W2 hM).mono ?_
  rintro e w3 ⟨A, cap, rfl, hR3, hM3, hF3⟩
  have hbl : Below w.heap.size W2 w3 := fx_low hF3 (by omega) (fun k hk => by rcases hk with rfl | rfl <;> omega)
  have HM3 := Lib.hid hM3
  have HF3 := Lib.hid (hF.trans hbl)
  clear hM hF hR3 hM3 hF3 hbl
  go_wp2_with fail
  refine (pisend_any w3 HM3.out).mono ?_
  rintro e w4 ⟨rfl, hb4⟩
  rw [show decide ((St.qsts l (.good ts)).2.hd.kind = 0) = true by rw [HFF.out]; rfl]
  have hM5 := HM3.out.below hb4
  rw [HFF.out] at hM5
  obtain ⟨vv, c0, c1, c2, z0, z2, eb, rfl, hA⟩ := hM5.cells
  have hx5 := hM5.ltx
  have HA := Lib.hid hA
  have HF5 := Lib.hid (HF3.out.trans (hb4.mono HF3.out.size))
  clear hM5 hb4 HM3 hA
  go_wp2
  go_region
  all_goals
    go_wp2
    go_ret2
    exact ⟨eb, rfl, HA.out.below (Below.refl _ _).drew, HF5.out.drew⟩
theorem preadq_any {s : ByteArray} {D : Nat} (w : World) (hG : GlobS w) (hs : s.size ≤ 65536) (h1 : 1 ≤ D) (h64 : D ≤ 64) : Calls Tryz.prog 38 #[.string s, .int .i64 (D : Int), .func (.func 39) #[] #[]] w (QPQ (parseQs D s.data.toList) w) := by
  obtain ⟨l, rfl⟩ : ∃ l, D = l + 1 := ⟨D - 1, by omega⟩
  cases htk : toks s.data.toList with
  | error x =>
    obtain ⟨c, p⟩ := x
    rw [show parseQs (l + 1) s.data.toList = .er c p by rw [parseQs, htk]]
    exact preadq_er w hG hs h64 htk
  | ok ts =>
    have e : parseQs (l + 1) s.data.toList = endQ (St.qsts l (.good ts)) := by rw [parseQs, htk]; rfl
    rw [e]
    cases hr : St.qsts l (.good ts) with
    | mk L st =>
      cases st with
      | bad c p => exact preadq_bad hr w hG hs h64 htk
      | good us => exact preadq_ok hr w hG hs h64 htk
set_option maxHeartbeats 1000000 in
theorem pqueries_any {s : ByteArray} {D : Nat} (w : World) (hG : GlobS w) (hs : s.size ≤ 65536) (h1 : 1 ≤ D) (h64 : D ≤ 64) : Calls Tryz.prog 20 #[.string s, .int .i64 (D : Int)] w (QPQ (parseQs D s.data.toList) w) := by
  have HH := Lib.hid (preadq_any (s := s) (D := D) w hG hs h1 h64)
  obtain ⟨res, hres⟩ : ∃ res, res = parseQs D s.data.toList := ⟨_, rfl⟩
  rw [← hres] at HH ⊢
  clear hG hs h1 h64 hres
  go_enter Tryz.func20, Tryz.ntmps20
  go_wp2_with fail
  refine (HH.out).mono ?_
  intro e w1 hp
  cases res with
  | ok L =>
    obtain ⟨A, cap, rfl, hR, hb⟩ := hp
    have HR := Lib.hid hR
    have HB := Lib.hid hb
    clear hR hb
    go_wp2
    go_ret2
    exact ⟨A, cap, rfl, HR.out, HB.out⟩
  | er c p =>
    obtain ⟨b, rfl, hA, hb⟩ := hp
    have HA := Lib.hid hA
    have HB := Lib.hid hb
    clear hA hb
    go_wp2
    go_ret2
    exact ⟨b, rfl, HA.out, HB.out⟩
/-- A depth that isn't one. -/
def BadD (d : Int) : Prop := d < 1 ∨ 64 < d
theorem bad_or (d : Int) : BadD d ∨ ∃ D : Nat, d = (D : Int) ∧ 1 ≤ D ∧ D ≤ 64 := by
  unfold BadD
  by_cases h : d < 1 ∨ 64 < d
  · exact .inl h
  · exact .inr ⟨d.toNat, by omega, by omega, by omega⟩
def ArgQ (z : Value) (w : World) (e : Ending) (w' : World) : Prop := e = .returned (.tuple #[z, .iface 76 (.int .i64 1)]) ∧ Below w.heap.size w w'
theorem preadq_arg {s : ByteArray} {d : Int} (w : World) (hd : BadD d) : Calls Tryz.prog 38 #[.string s, .int .i64 d, .func (.func 39) #[] #[]] w (ArgQ (.slice none 0 0) w) := by
  by_cases h : d < 1
  · have g1 : decide (d < 1) = true := decide_eq_true h
    clear hd h
    go_enter Tryz.func38, Tryz.ntmps38
    go_wp2
    go_ret2
    exact ⟨rfl, Below.refl _ _⟩
  · have h2 : 64 < d := by rcases hd with hd | hd; exact absurd hd h; exact hd
    have g1 : decide (d < 1) = false := decide_eq_false h
    have g2 : decide (64 < d) = true := decide_eq_true h2
    clear hd h h2
    go_enter Tryz.func38, Tryz.ntmps38
    go_wp2
    go_ret2
    exact ⟨rfl, Below.refl _ _⟩
theorem pqueries_arg {s : ByteArray} {d : Int} (w : World) (hd : BadD d) : Calls Tryz.prog 20 #[.string s, .int .i64 d] w (ArgQ (.slice none 0 0) w) := by
  have HH := Lib.hid (preadq_arg (s := s) w hd)
  clear hd
  go_enter Tryz.func20, Tryz.ntmps20
  go_wp2_with fail
  refine (HH.out).mono ?_
  rintro e w1 ⟨rfl, hb⟩
  have HB := Lib.hid hb
  clear hb
  go_wp2
  go_ret2
  exact ⟨rfl, HB.out⟩
end
end Go.Proofs.YtjhicgllofjpoaaGreatDoor
