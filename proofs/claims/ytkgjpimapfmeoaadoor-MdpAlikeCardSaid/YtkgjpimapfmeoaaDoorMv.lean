/-
  The law MdpAlike.
-/
import Derived.Test.YtkgjpimapfmeoaaDoorMw
import Derived.Test.YtkgjpimapfmeoaaDoorMr
import Derived.BigRegion
namespace Go.Proofs.YtkgjpimapfmeoaaDoor
open Go.RowKit

theorem alike_trans {p q r : PrO} (h : alikeO p q) (k : alikeO q r) : alikeO p r := ⟨h.1.trans k.1, h.2.1.trans k.2.1, h.2.2.1.trans k.2.2.1, h.2.2.2.trans k.2.2.2⟩
theorem lies_at2 {w : World} {q q' : Nat} {t : TypeId} {cs : List Value} (h : Bx w q t cs) (e : q = q') : ∀ (j : Nat) (u : Value), cs[j]? = some u → w.cell? ((⟨q', 0, none⟩ : Addr).add j) = some u := by subst e; exact lies_at h
theorem mvc_set : ∀ {l : List MvO} {n : Nat} (m : MvO), mvc (l.set n m) = ((mvc l).set (n * 2) (iv m.to)).set (n * 2 + 1) (iv m.wt)
  | [], n, m => by simp [mvc]
  | x :: l, 0, m => by simp [mvc]
  | x :: l, n + 1, m => by
    have := mvc_set (l := l) (n := n) m
    rw [List.set_cons_succ, mvc, mvc, this, show (n + 1) * 2 = n * 2 + 1 + 1 by omega]
    simp
theorem mvc_wt {l : List MvO} {n : Nat} (hn : n < l.length) (x : Int) : mvc (l.set n ⟨l[n].to, x⟩) = (mvc l).set (n * 2 + 1) (iv x) := by
  rw [mvc_set]
  congr 1
  have h := (mvc_get hn).1
  apply List.ext_getElem?
  intro i
  rw [List.getElem?_set]
  split
  · rename_i e
    subst e
    rw [h]
    split
    · rfl
    · rename_i h2
      rw [List.getElem?_eq_none (by omega)] at h
      cases h
  · rfl
/-- Bounds on what is looked at. -/
structure Few (p : PrO) : Prop where
  ch : p.chs.length ≤ 40
  cs : ∀ cs ∈ p.chs, cs.length ≤ 10
  mv : ∀ cs ∈ p.chs, ∀ c ∈ cs, c.mv.length ≤ 20
theorem few_of {p : PrO} (h : ¬ farO p) : Few p := by
  refine ⟨?_, fun cs hc => ?_, fun cs hc c hcc => ?_⟩
  · by_cases e : 40 < p.chs.length
    · exact absurd (.inl e) h
    · omega
  · by_cases e : 10 < cs.length
    · exact absurd (.inr (.inr (.inr (.inl ⟨cs, hc, .inl e⟩)))) h
    · omega
  · by_cases e : 20 < c.mv.length
    · exact absurd (.inr (.inr (.inr (.inl ⟨cs, hc, .inr ⟨c, hcc, e⟩⟩)))) h
    · omega
/-- What holds of memory while the copy is changed. -/
structure AlS (p p' : PrO) (vy : PV) (g b8 lo : Nat) (W5 W : World) : Prop where
  sim : SimP p p'
  by_ : Bx W b8 31 [.int .i64 p.init, .slice (some ⟨g, 0, none⟩) p.chs.length vy.a, .slice vy.B p.nms.length vy.b, .slice vy.C p.hds.length vy.c]
  pi : PrI W lo b8 vy p'
  b : Below lo W5 W
/-- What the law knows of memory while it compares. -/
structure YM (p q : PrO) (v vx vy : PV) (g : Nat) (w0 : World) (b0 b5 b8 : Nat) (wb : World) (L : List (Option Addr × List Int)) (w : World) : Prop where
  tl : TlM p v vx [] w0 b0 b5 L w
  bY : Bx w b8 31 [.int .i64 p.init, .slice (some ⟨g, 0, none⟩) p.chs.length vy.a, .slice vy.B p.nms.length vy.b, .slice vy.C p.hds.length vy.c]
  y : PrM w vy q
  bb : Below wb.heap.size wb w
/-- What one process has in common with another. -/
structure Lk (p q : PrO) (vy : PV) (g : Nat) : Prop where
  l : vy.l q = [.int .i64 p.init, .slice (some ⟨g, 0, none⟩) p.chs.length vy.a, .slice vy.B p.nms.length vy.b, .slice vy.C p.hds.length vy.c]
  s : Sml q
section
variable {p q : PrO} {v vx vy : PV} {g : Nat} {w0 : World} {b0 b5 b8 : Nat} {wb : World} {L : List (Option Addr × List Int)} {w w' : World}
theorem YM.below (h : YM p q v vx vy g w0 b0 b5 b8 wb L w) (hb : Below w.heap.size w w') : YM p q v vx vy g w0 b0 b5 b8 wb L w' := ⟨h.tl.below hb, h.bY.below hb, h.y.below hb, below_t h.bb hb⟩
theorem YM.drew (h : YM p q v vx vy g w0 b0 b5 b8 wb L w) : YM p q v vx vy g w0 b0 b5 b8 wb L w.drew := h.below ((Below.refl _ _).drew)
theorem YM.more (h : YM p q v vx vy g w0 b0 b5 b8 wb L w) {A : Option Addr} {l : List Int} (hl : ISl w A l) : YM p q v vx vy g w0 b0 b5 b8 wb ((A, l) :: L) w := ⟨h.tl.more hl, h.bY, h.y, h.bb⟩
theorem YM.aXY (h : YM p q v vx vy g w0 b0 b5 b8 wb L w) (hs : Sml p) (hq : Lk p q vy g) {b : Bool} (hb : alikeO p q ↔ b = true) : Calls Tryd.prog 19 #[.agg #[.int .i64 p.init, .slice vx.A p.chs.length vx.a, .slice vx.B p.nms.length vx.b, .slice vx.C p.hds.length vx.c], .agg #[.int .i64 p.init, .slice (some ⟨g, 0, none⟩) p.chs.length vy.a, .slice vy.B p.nms.length vy.b, .slice vy.C p.hds.length vy.c]] w fun e w' => e = .returned (.bool b) ∧ YM p q v vx vy g w0 b0 b5 b8 wb L w' := by
  classical
  have hc := malike_any w h.tl.x h.y hs hq.s
  have e := hq.l
  change Calls Tryd.prog 19 #[.agg #[.int .i64 p.init, .slice vx.A p.chs.length vx.a, .slice vx.B p.nms.length vx.b, .slice vx.C p.hds.length vx.c], .agg (vy.l q).toArray] w _ at hc
  rw [e] at hc
  exact hc.mono fun _ _ ⟨h1, h2⟩ => ⟨h1.trans (ret_bool (Bool.eq_iff_iff.2 (by rw [decide_eq_true_iff]; exact hb))), h.below h2⟩
theorem YM.aYX (h : YM p q v vx vy g w0 b0 b5 b8 wb L w) (hs : Sml p) (hq : Lk p q vy g) (hb : alikeO q p) : Calls Tryd.prog 19 #[.agg #[.int .i64 p.init, .slice (some ⟨g, 0, none⟩) p.chs.length vy.a, .slice vy.B p.nms.length vy.b, .slice vy.C p.hds.length vy.c], .agg #[.int .i64 p.init, .slice vx.A p.chs.length vx.a, .slice vx.B p.nms.length vx.b, .slice vx.C p.hds.length vx.c]] w fun e w' => e = .returned (.bool true) ∧ YM p q v vx vy g w0 b0 b5 b8 wb L w' := by
  classical
  have hc := malike_any w h.y h.tl.x hq.s hs
  have e := hq.l
  change Calls Tryd.prog 19 #[.agg (vy.l q).toArray, .agg #[.int .i64 p.init, .slice vx.A p.chs.length vx.a, .slice vx.B p.nms.length vx.b, .slice vx.C p.hds.length vx.c]] w _ at hc
  rw [e] at hc
  exact hc.mono fun _ _ ⟨h1, h2⟩ => ⟨h1.trans (ret_bool (decide_eq_true hb)), h.below h2⟩
theorem YM.check (h : YM p q v vx vy g w0 b0 b5 b8 wb L w) (hq : Lk p q vy g) (hr : q.right) : Calls Tryd.prog 9 #[.agg #[.int .i64 p.init, .slice (some ⟨g, 0, none⟩) p.chs.length vy.a, .slice vy.B p.nms.length vy.b, .slice vy.C p.hds.length vy.c]] w fun e w' => e = .returned .nilIface ∧ YM p q v vx vy g w0 b0 b5 b8 wb L w' := by
  have hc := check_any w h.y hq.s
  rw [hq.l] at hc
  exact hc.mono fun _ _ ⟨h1, h2⟩ => by
    rw [if_pos hr] at h1
    exact ⟨h1, h.below h2⟩
theorem YM.reachX (h : YM p q v vx vy g w0 b0 b5 b8 wb L w) (hs : Sml p) : Calls Tryd.prog 15 #[.agg #[.int .i64 p.init, .slice vx.A p.chs.length vx.a, .slice vx.B p.nms.length vx.b, .slice vx.C p.hds.length vx.c]] w fun e w' => ∃ A cap, e = .returned (.slice A (reachO p).length cap) ∧ YM p q v vx vy g w0 b0 b5 b8 wb ((A, reachO p) :: L) w' :=
  (reach_any w h.tl.x hs).mono fun _ _ ⟨_, h1, h2, h3⟩ => by
    obtain ⟨A, cap, rfl, _, h4⟩ := own_isl h2
    exact ⟨A, cap, h1, (h.below h3).more h4⟩
theorem YM.reachY (h : YM p q v vx vy g w0 b0 b5 b8 wb L w) (hq : Lk p q vy g) (hr : reachO q = reachO p) : Calls Tryd.prog 15 #[.agg #[.int .i64 p.init, .slice (some ⟨g, 0, none⟩) p.chs.length vy.a, .slice vy.B p.nms.length vy.b, .slice vy.C p.hds.length vy.c]] w fun e w' => ∃ A cap, e = .returned (.slice A (reachO p).length cap) ∧ YM p q v vx vy g w0 b0 b5 b8 wb ((A, reachO p) :: L) w' := by
  have hc := reach_any w h.y hq.s
  rw [hq.l, hr] at hc
  exact hc.mono fun _ _ ⟨_, h1, h2, h3⟩ => by
    obtain ⟨A, cap, rfl, _, h4⟩ := own_isl h2
    exact ⟨A, cap, h1, (h.below h3).more h4⟩
theorem YM.ints (h : YM p q v vx vy g w0 b0 b5 b8 wb L w) {A B : Option Addr} {l : List Int} {c1 c2 : Nat} (h1 : (A, l) ∈ L) (h2 : (B, l) ∈ L) (hl : l.length ≤ 1000000) : Calls Tryd.prog 14 #[.slice A l.length c1, .slice B l.length c2] w fun e w' => e = .returned (.bool true) ∧ YM p q v vx vy g w0 b0 b5 b8 wb L w' := by
  classical
  exact (ints_any w (h.tl.il _ h1) (h.tl.il _ h2) hl).mono fun _ _ ⟨h3, h4⟩ => ⟨by rw [h3, decide_eq_true rfl], h.below h4⟩
end
def LaR (p : PrO) (vy : PV) (g b8 lo : Nat) (W5 : World) (k i : Value) (W : World) : Prop := ∃ (kk ii : Nat) (p' : PrO), k = .int .i64 (kk : Int) ∧ i = .int .i64 (ii : Int) ∧ ii ≤ p.chs.length ∧ kk ≤ ii * 200 ∧ AlS p p' vy g b8 lo W5 W
def LbR (p : PrO) (vy : PV) (g b8 lo ii n : Nat) (W5 : World) (k j : Value) (W : World) : Prop := ∃ (kk jj : Nat) (p' : PrO), k = .int .i64 (kk : Int) ∧ j = .int .i64 (jj : Int) ∧ jj ≤ n ∧ kk ≤ ii * 200 + jj * 20 ∧ AlS p p' vy g b8 lo W5 W
def LcR (mv0 : List MvO) (gm l2 cap3 M K : Nat) (Wb : World) (k n : Value) (W : World) : Prop := ∃ (kk nn : Nat) (mv' : List MvO), k = .int .i64 (kk : Int) ∧ n = .int .i64 (nn : Int) ∧ nn ≤ M ∧ kk ≤ K + nn ∧ SimM mv0 mv' ∧ Wr gm Wb W ∧ W.ownsRow l2 60 2 (.slice (some ⟨gm, 0, none⟩) M cap3) M (mvc mv')
open Classical in
set_option maxHeartbeats 16000000 in
set_option maxRecDepth 100000 in
theorem malike_law {p : PrO} {v : PV} {A : Option Addr} {ws : List Nat} {s c T cl : Nat} (w : World) (hG : Glob w) (hp : PrM w v p) (hs : s ≤ 255) (hc : c ≤ 255) (hT : T = ws.length) (hws : ws.length ≤ maxLen) (ht : WSl w A ws) (hsz : ∀ cs ∈ p.chs, ∀ c ∈ cs, c.act.size ≤ 140737488351232) : Calls Tryd.prog 4 #[.agg (v.l p).toArray, .slice A T cl, .int .u8 (s : Int), .int .u8 (c : Int)] w (LawF w) := by
  have HG := Lib.hid hG
  have HP := Lib.hid hp
  have HT := Lib.hid ht
  have HW := Lib.hid (below_alloc w (.cells (v.l p).toArray 26))
  have HX := Lib.hid (Bx.new w 26 (v.l p))
  change Hid (Below w.heap.size w (w.alloc (.cells #[.int .i64 p.init, .slice v.A p.chs.length v.a, .slice v.B p.nms.length v.b, .slice v.C p.hds.length v.c] 26))) at HW
  change Hid (Bx (w.alloc (.cells #[.int .i64 p.init, .slice v.A p.chs.length v.a, .slice v.B p.nms.length v.b, .slice v.C p.hds.length v.c] 26)) w.heap.size 26 [.int .i64 p.init, .slice v.A p.chs.length v.a, .slice v.B p.nms.length v.b, .slice v.C p.hds.length v.c]) at HX
  have HAL := Lib.hid (alive_yes (w.alloc (.cells #[.int .i64 p.init, .slice v.A p.chs.length v.a, .slice v.B p.nms.length v.b, .slice v.C p.hds.length v.c] 26)) (HG.out.below HW.out))
  have HFAR := Lib.hid (fun (W : World) (hb : Below w.heap.size w W) => far_any W (hp.below hb))
  change Hid (∀ (W : World) (hb : Below w.heap.size w W), Calls Tryd.prog 7 #[.agg #[.int .i64 p.init, .slice v.A p.chs.length v.a, .slice v.B p.nms.length v.b, .slice v.C p.hds.length v.c]] W (BoolP (decide (farO p)) W)) at HFAR
  show Calls Tryd.prog 4 #[.agg #[.int .i64 p.init, .slice v.A p.chs.length v.a, .slice v.B p.nms.length v.b, .slice v.C p.hds.length v.c], .slice A T cl, .int .u8 (s : Int), .int .u8 (c : Int)] w _
  clear hG hp ht
  by_cases hf : farO p
  · have HF := Lib.hid (decide_eq_true hf)
    clear hf
    go_enter Tryd.func4, Tryd.ntmps4
    go_wp2_with fail
    with_reducible refine (HAL.out).mono ?_
    rintro e w1 ⟨rfl, hb1⟩
    have HB1 := Lib.hid (below_t HW.out hb1)
    obtain ⟨x0, x1, x2, x3⟩ := (HX.out.below hb1).cells4
    clear hb1
    go_wp2_with fail
    with_reducible refine (HFAR.out _ HB1.out).mono ?_
    rintro e w2 ⟨rfl, hb2⟩
    have HB2 := Lib.hid (below_t HB1.out hb2)
    clear hb2
    rw [HF.out]
    go_wp2
    go_ret
    exact ⟨rfl, HB2.out⟩
  have HF := Lib.hid (decide_eq_false hf)
  have HFO := Lib.hid hf
  have HS := Lib.hid (sml_of hf)
  have HRI := Lib.hid (fun (W : World) (hb : Below w.heap.size w W) => rright_any W (HP.out.below hb) HS.out)
  change Hid (∀ (W : World) (hb : Below w.heap.size w W), Calls Tryd.prog 12 #[.agg #[.int .i64 p.init, .slice v.A p.chs.length v.a, .slice v.B p.nms.length v.b, .slice v.C p.hds.length v.c]] W (BoolP (decide p.right) W)) at HRI
  clear hf
  go_enter Tryd.func4, Tryd.ntmps4
  go_wp2_with fail
  with_reducible refine (HAL.out).mono ?_
  rintro e w1 ⟨rfl, hb1⟩
  have HB1 := Lib.hid (below_t HW.out hb1)
  have HX1 := Lib.hid (HX.out.below hb1)
  obtain ⟨x0, x1, x2, x3⟩ := HX1.out.cells4
  clear hb1
  go_wp2_with fail
  with_reducible refine (HFAR.out _ HB1.out).mono ?_
  rintro e w2 ⟨rfl, hb2⟩
  have HB2 := Lib.hid (below_t HB1.out hb2)
  have HX2 := Lib.hid (HX1.out.below hb2)
  clear hb2 x0 x1 x2 x3
  obtain ⟨x0, x1, x2, x3⟩ := HX2.out.cells4
  rw [HF.out]
  go_wp2_with fail
  with_reducible refine (HRI.out _ HB2.out).mono ?_
  rintro e w3 ⟨rfl, hb3⟩
  have HB3 := Lib.hid (below_t HB2.out hb3)
  have HX3 := Lib.hid (HX2.out.below hb3)
  clear hb3 x0 x1 x2 x3
  obtain ⟨x0, x1, x2, x3⟩ := HX3.out.cells4
  clear HX HX1 HX2 HAL HFAR HRI HW HB1 HB2
  by_cases hr : ¬ p.right
  · have HE := Lib.hid (decide_eq_false hr)
    clear hr
    rw [HE.out]
    go_wp2
    go_ret
    exact ⟨rfl, HB3.out⟩
  have hr' : p.right := Classical.not_not.1 hr
  have HE := Lib.hid (decide_eq_true hr')
  have HR := Lib.hid hr'
  clear hr hr'
  rw [HE.out]
  have HOF := Lib.hid (of_any w3 (HP.out.below HB3.out) HS.out)
  change Hid (Calls Tryd.prog 8 #[.agg #[.int .i64 p.init, .slice v.A p.chs.length v.a, .slice v.B p.nms.length v.b, .slice v.C p.hds.length v.c]] w3 (OfP p w3)) at HOF
  go_wp2_with fail
  with_reducible refine (HOF.out).mono ?_
  rintro e w4 ⟨vx, rfl, hpi, hb4⟩
  have HM4 := Lib.hid (show TlM p v vx [] w w.heap.size w4.heap.size [] (w4.alloc (.cells #[.int .i64 p.init, .slice vx.A p.chs.length vx.a, .slice vx.B p.nms.length vx.b, .slice vx.C p.hds.length vx.c] 31)) from
    have hb5 := below_t HB3.out hb4
    have hb6 := below_alloc w4 (.cells #[.int .i64 p.init, .slice vx.A p.chs.length vx.a, .slice vx.B p.nms.length vx.b, .slice vx.C p.hds.length vx.c] 31)
    ⟨(HX3.out.below hb4).below hb6, Bx.new w4 31 _, (HP.out.below hb5).below hb6, hpi.mem.below hb6, fun y hy => absurd hy (by simp), HG.out.below (below_t hb5 hb6), below_t hb5 hb6⟩)
  clear hpi hb4 HX3 HB3 x0 x1 x2 x3 HOF
  dsimp only [PV.l]
  go_upto_region 6 with fail
  obtain ⟨b5, hb5⟩ : ∃ b5, b5 = w4.heap.size := ⟨_, rfl⟩
  generalize w4.alloc (.cells #[.int .i64 p.init, .slice vx.A p.chs.length vx.a, .slice vx.B p.nms.length vx.b, .slice vx.C p.hds.length vx.c] 31) = W5 at HM4 ⊢
  rw [← hb5] at HM4 ⊢
  clear hb5
  have HOF := Lib.hid (of_any W5 HM4.out.m HS.out)
  change Hid (Calls Tryd.prog 8 #[.agg #[.int .i64 p.init, .slice v.A p.chs.length v.a, .slice v.B p.nms.length v.b, .slice v.C p.hds.length v.c]] W5 (OfP p W5)) at HOF
  obtain ⟨x0, x1, x2, x3⟩ := HM4.out.bm.cells4
  go_wp2_with fail
  with_reducible refine (HOF.out).mono ?_
  rintro e w6 ⟨vy, rfl, hpi, hb6⟩
  dsimp only [PV.l]
  go_upto_region 7 with fail
  have hz6 := hb6.size
  have hb8 := hb6.alloc hz6 (.cells #[.int .i64 p.init, .slice vy.A p.chs.length vy.a, .slice vy.B p.nms.length vy.b, .slice vy.C p.hds.length vy.c] 31)
  have hbA := below_alloc w6 (.cells #[.int .i64 p.init, .slice vy.A p.chs.length vy.a, .slice vy.B p.nms.length vy.b, .slice vy.C p.hds.length vy.c] 31)
  have HPI := Lib.hid (show PrI (w6.alloc (.cells #[.int .i64 p.init, .slice vy.A p.chs.length vy.a, .slice vy.B p.nms.length vy.b, .slice vy.C p.hds.length vy.c] 31)) W5.heap.size w6.heap.size vy p from hpi.keep (Kp.of hbA (Nat.le_refl _)))
  have HX8 := Lib.hid (Bx.new w6 31 [.int .i64 p.init, .slice vy.A p.chs.length vy.a, .slice vy.B p.nms.length vy.b, .slice vy.C p.hds.length vy.c])
  change Hid (Bx (w6.alloc (.cells #[.int .i64 p.init, .slice vy.A p.chs.length vy.a, .slice vy.B p.nms.length vy.b, .slice vy.C p.hds.length vy.c] 31)) w6.heap.size 31 [.int .i64 p.init, .slice vy.A p.chs.length vy.a, .slice vy.B p.nms.length vy.b, .slice vy.C p.hds.length vy.c]) at HX8
  have HM8 := Lib.hid (HM4.out.below hb8)
  have HM4S := HM4.out.b.size
  have HM4T := HM4.out.bm.lt
  have HB8 := Lib.hid hb8
  have HZ8 := Lib.hid (show (w6.alloc (.cells #[.int .i64 p.init, .slice vy.A p.chs.length vy.a, .slice vy.B p.nms.length vy.b, .slice vy.C p.hds.length vy.c] 31)).heap.size = w6.heap.size + 1 by simp)
  clear hpi hb6 hb8 hbA HOF x0 x1 x2 x3
  generalize w6.alloc (.cells #[.int .i64 p.init, .slice vy.A p.chs.length vy.a, .slice vy.B p.nms.length vy.b, .slice vy.C p.hds.length vy.c] 31) = W8 at *
  generalize w6.heap.size = b8 at *
  have HFEW := Lib.hid (few_of HFO.out)
  have HSZ := Lib.hid hsz
  clear hsz
  have hn1 : 1 ≤ p.chs.length := by have := HR.out.1; omega
  have hn40 : p.chs.length ≤ 40 := HFEW.out.ch
  obtain ⟨g, l, r, B, cap, rc, cur, hgA, hlg, hgh, -⟩ := HPI.out.row (i := 0) (by omega)
  rw [hgA] at HX8 ⊢
  have HGA := Lib.hid hgA
  clear hgA l r B cap rc cur
  have HAS := Lib.hid (show AlS p p vy g b8 W5.heap.size W5 W8 from ⟨SimP.refl HR.out, HX8.out, HPI.out, HB8.out⟩)
  obtain ⟨n, hn⟩ : ∃ n, n = p.chs.length := ⟨_, rfl⟩
  have HN := Lib.hid hn
  subst hT
  have HWM := Lib.hid hws
  clear hn hws
  clear HPI HX8
  go_wp2
  go_loopw [11, 12] (fun k i W => LaR p vy g b8 W5.heap.size W5 k i W) (fun _ i _ => p.chs.length - (intOf i).toNat)
  case atStart => exact ⟨0, 0, p, rfl, rfl, Nat.zero_le _, by omega, HAS.out⟩
  case round =>
    clear HAS HM8 HB8 HZ8
    obtain ⟨kk, ii, p', rfl, rfl, hii, hkk, has⟩ := hrel
    have HAS := Lib.hid has
    clear has
    obtain ⟨y0, y1, y2, y3⟩ := HAS.out.by_.cells4
    by_cases hin : ii < p.chs.length
    · have e1 : decide (ii < p.chs.length) = true := by simp; omega
      have hi' : ii < p'.chs.length := by rw [HAS.out.sim.len]; exact hin
      obtain ⟨q, hq⟩ : ∃ q, q = p.chs[ii].length := ⟨_, rfl⟩
      have HQ := Lib.hid hq
      have hq10 : q ≤ 10 := by rw [hq]; exact HFEW.out.cs _ (List.getElem_mem hin)
      clear hq hi'
      go_wp2
      go_loopw [11, 13] (fun k j W => LbR p vy g b8 W5.heap.size ii q W5 k j W) (fun _ j _ => q - (intOf j).toNat)
      case atStart => exact ⟨kk, 0, p', rfl, rfl, Nat.zero_le _, by omega, HAS.out⟩
      case round =>
        clear HAS y0 y1 y2 y3 hkk
        obtain ⟨kk, jj, p', rfl, rfl, hjj, hkk, has⟩ := hrel
        have HAS := Lib.hid has
        clear has
        obtain ⟨y0, y1, y2, y3⟩ := HAS.out.by_.cells4
        have hi' : ii < p'.chs.length := by rw [HAS.out.sim.len]; exact hin
        have hss := HAS.out.sim.ch ii hin hi'
        have hql : p'.chs[ii].length = q := by rw [HQ.out]; exact hss.1
        obtain ⟨g', l, r, B, cap, rc, hgA', b1, b2, b3, z0, -, -, -, -⟩ := HAS.out.pi.rowI hi'
        have hgg := HGA.out.symm.trans hgA'
        injection hgg with hgg
        injection hgg with hgg
        subst hgg
        rw [hql] at z0
        clear hgA' b1 b2 b3 l r rc
        by_cases hjq : jj < q
        · have e2 : decide (jj < q) = true := by simp; omega
          have hj' : jj < p'.chs[ii].length := by rw [hql]; exact hjq
          have hj0 : jj < p.chs[ii].length := by rw [← HQ.out]; exact hjq
          have hsc := hss.2 jj hj0 hj'
          have hrt := (HR.out.2.2.2.2.1 _ (List.getElem_mem hin)).2 _ (List.getElem_mem hj0)
          have hml : p'.chs[ii][jj].mv.length = p.chs[ii][jj].mv.length := hsc.2.len
          have hm0 : 0 < p'.chs[ii][jj].mv.length := by rw [hml]; exact List.length_pos_iff.2 hrt.1
          obtain ⟨g', gc, cap', gm, l2, cap3, hgA', hglo, hghi, z1, z2, hown, hreb⟩ := HAS.out.pi.focus hi' hj' hm0
          have hgg := HGA.out.symm.trans hgA'
          injection hgg with hgg
          injection hgg with hgg
          subst hgg
          rw [hql] at z1
          rw [z0] at z1
          injection z1 with z1
          simp only [Value.slice.injEq] at z1
          obtain ⟨rfl, -, rfl⟩ := z1
          have HREB := Lib.hid hreb
          obtain ⟨M, hM⟩ : ∃ M, M = p'.chs[ii][jj].mv.length := ⟨_, rfl⟩
          have HMM := Lib.hid hM
          have hM20 : M ≤ 20 := by rw [hM, hml]; exact HFEW.out.mv _ (List.getElem_mem hin) _ (List.getElem_mem hj0)
          have hM1 : 0 < M := by rw [hM]; exact hm0
          rw [← hM] at z2 hown
          have HSC := Lib.hid hsc
          have HRT := Lib.hid hrt
          have HML := Lib.hid (hM.trans hml)
          have HHJ := Lib.hid hj'
          have HHI := Lib.hid hi'
          have HHJ0 := Lib.hid hj0
          have HC0 := Lib.hid (show LcR p.chs[ii][jj].mv gm l2 cap3 M kk wr (.int .i64 (kk : Int)) (.int .i64 0) wr from ⟨kk, 0, _, rfl, rfl, Nat.zero_le _, by omega, hsc.2, Wr.refl _ _, hown⟩)
          obtain ⟨Wb, hWb⟩ : ∃ Wb, Wb = wr := ⟨_, rfl⟩
          have z2' := z2
          clear hreb hM hml hm0 hsc hrt hown hss hgA'
          go_wp2
          rw [← hWb] at HC0 HAS HREB
          rw [← hWb]
          go_loopw [11, 15] (fun k n W => LcR p.chs[ii][jj].mv gm l2 cap3 M kk Wb k n W) (fun _ n _ => M - (intOf n).toNat)
          case atStart => exact HC0.out
          case round =>
            clear HC0 y0 y1 y2 y3 z0 z2 z2'
            obtain ⟨k3, n3, mv', rfl, rfl, hn3, hk3, hsim, hwr, hown⟩ := hrel
            have HSI := Lib.hid hsim
            have HWR := Lib.hid hwr
            have HOW := Lib.hid hown
            have hmvl : mv'.length = M := hsim.len.trans HML.out.symm
            clear hsim hwr hown
            by_cases hnM : n3 < M
            · have e3 : decide (n3 < M) = true := by simp; omega
              have hk3b : k3 ≤ 1000000 := by omega
              have hn3l : n3 < mv'.length := by rw [hmvl]; exact hnM
              by_cases hkT : k3 < ws.length
              · have e4 : decide (k3 < ws.length) = true := by simp; omega
                obtain ⟨gw, ow, rfl, hw1, hw2⟩ := HT.out k3 hkT
                have HTZ := Lib.hid HT
                clear HT
                obtain ⟨x, hx⟩ : ∃ x, x = ws[k3]'hkT := ⟨_, rfl⟩
                rw [← hx] at hw1 hw2
                clear hx
                have hbw := below_t HM4.out.b (HAS.out.b.trans (HWR.out.below hglo))
                replace hw1 := cell_blw hbw hw1
                obtain ⟨-, -, -, hcl⟩ := own_cells HOW.out
                have f0 := hcl gm rfl (n3 * 2 + 1) _ (mvc_get hn3l).2
                obtain ⟨cur, hcur⟩ := own_heap HOW.out
                have f1 : wr.frozen? ⟨gm, n3 * 2 + 1, none⟩ = false := Bx.frozen (q := gm) (t := 60) (cs := cur.toList) hcur _
                have eW1 : IntKind.i64.wrap (x : Int) = (x : Int) := IntWalk.i64_in _ (by omega)
                have eW2 : IntKind.i64.wrap (1 + (x : Int)) = 1 + (x : Int) := IntWalk.i64_in _ (by omega)
                have HST := Lib.hid (show LcR p.chs[ii][jj].mv gm l2 cap3 M kk Wb (.int .i64 ((k3 + 1 : Nat) : Int)) (.int .i64 ((n3 + 1 : Nat) : Int)) (wr.setCell ⟨gm, n3 * 2 + 1, none⟩ (.int .i64 (1 + (x : Int)))) from ⟨k3 + 1, n3 + 1, _, rfl, rfl, hnM, by omega, HSI.out.wt hn3l (x := 1 + (x : Int)) (by omega), HWR.out.set _ _, by
                  rw [mvc_wt hn3l]
                  exact own_set HOW.out (by rw [mvc_len]; omega)⟩)
                clear hbw hcl hcur
                go_wp2
                go_roundw
                case rel => exact HST.out
                case measure => simp [intOf]; omega
              · have e4 : decide (k3 < ws.length) = false := by simp; omega
                go_wp2
                go_roundw
                case rel => exact ⟨k3 + 1, n3 + 1, mv', by go_num, by go_num, hnM, by omega, HSI.out, HWR.out, HOW.out⟩
                case measure => simp [intOf]; omega
            · have e3 : decide (n3 < M) = false := by simp; omega
              have HFIN := Lib.hid (show ∀ (W : World) (mv2 : List MvO), SimM p.chs[ii][jj].mv mv2 → Wr gm Wb W → W.ownsRow l2 60 2 (.slice (some ⟨gm, 0, none⟩) M cap3) M (mvc mv2) → AlS p (rowO p' ii (p'.chs[ii].set jj ⟨p'.chs[ii][jj].act, mv2⟩)) vy g b8 W5.heap.size W5 W from fun W mv2 h1 h2 h3 =>
                ⟨HAS.out.sim.set HHI.out hin HHJ0.out ⟨HSC.out.1, h1⟩, h2.bx HAS.out.by_ (by omega), HREB.out W mv2 h2 (h1.len.trans (HML.out.symm.trans HMM.out)) (by rw [← HMM.out]; exact h3), HAS.out.b.trans (h2.below hglo)⟩)
              have HKB := Lib.hid (show k3 ≤ ii * 200 + (jj + 1) * 20 by omega)
              by_cases hM2 : 1 < M
              · have e5 : decide (1 < M) = true := by simp; omega
                have e5' : decide ((1 : Int) < (M : Int)) = true := by simp; omega
                obtain ⟨m1, hm1⟩ : ∃ m1, M = m1 + 1 := ⟨M - 1, by omega⟩
                have hm1l : m1 < mv'.length := by omega
                have h0l : 0 < mv'.length := by omega
                obtain ⟨-, -, -, hcl⟩ := own_cells HOW.out
                have f0 := hcl gm rfl (0 * 2) _ (mvc_get h0l).1
                have f1 := hcl gm rfl (0 * 2 + 1) _ (mvc_get h0l).2
                have f2 := hcl gm rfl (m1 * 2) _ (mvc_get hm1l).1
                have f3 := hcl gm rfl (m1 * 2 + 1) _ (mvc_get hm1l).2
                obtain ⟨cur, hcur⟩ := own_heap HOW.out
                have hfz : ∀ i, wr.frozen? ⟨gm, i, none⟩ = false := fun i => Bx.frozen (q := gm) (t := 60) (cs := cur.toList) hcur i
                have f4 := hfz 0
                have f5 := hfz 1
                have f6 := hfz (m1 * 2)
                have f7 := hfz (m1 * 2 + 1)
                have hlx : m1 = mv'.length - 1 := by omega
                have HSWP := Lib.hid (show SimM p.chs[ii][jj].mv ((mv'.set 0 mv'[m1]).set m1 mv'[0]) from by subst hlx; exact HSI.out.swap (by omega))
                have HOW2 := Lib.hid (show ∀ (W : World), W.ownsRow l2 60 2 (.slice (some ⟨gm, 0, none⟩) M cap3) M (mvc mv') → ((((W.setCell ⟨gm, 0, none⟩ (iv mv'[m1].to)).setCell ⟨gm, 1, none⟩ (iv mv'[m1].wt)).setCell ⟨gm, m1 * 2, none⟩ (iv mv'[0].to)).setCell ⟨gm, m1 * 2 + 1, none⟩ (iv mv'[0].wt)).ownsRow l2 60 2 (.slice (some ⟨gm, 0, none⟩) M cap3) M (mvc ((mv'.set 0 mv'[m1]).set m1 mv'[0])) from fun W hW => by
                  rw [mvc_set, mvc_set]
                  have hl := mvc_len mv'
                  exact own_set (own_set (own_set (own_set hW (by omega)) (by rw [List.length_set]; omega)) (by rw [List.length_set, List.length_set]; omega)) (by rw [List.length_set, List.length_set, List.length_set]; omega))
                obtain ⟨ma, hma⟩ : ∃ x, x = mv'[0] := ⟨_, rfl⟩
                obtain ⟨mb, hmb⟩ : ∃ x, x = mv'[m1] := ⟨_, rfl⟩
                rw [← hma, ← hmb] at HSWP HOW2
                rw [← hma] at f0 f1
                rw [← hmb] at f2 f3
                obtain ⟨at_, aw⟩ := ma
                obtain ⟨bt, bw⟩ := mb
                change wr.cell? ⟨gm, 0, none⟩ = some (.int .i64 at_) at f0
                change wr.cell? ⟨gm, 1, none⟩ = some (.int .i64 aw) at f1
                change wr.cell? ⟨gm, m1 * 2, none⟩ = some (.int .i64 bt) at f2
                change wr.cell? ⟨gm, m1 * 2 + 1, none⟩ = some (.int .i64 bw) at f3
                have hgmw : gm < wr.heap.size := blk_lt hcur
                have eM1 : (M : Int) - 1 = (m1 : Int) := by omega
                have eM2 : IntKind.i64.wrap ((M : Int) - 1) = (m1 : Int) := by rw [eM1]; exact IntWalk.i64_in _ (by omega)
                have eM3 : IntKind.i64.wrap (m1 : Int) = (m1 : Int) := IntWalk.i64_in _ (by omega)
                have hi0 : (0 : Int) ≤ (m1 : Int) := by omega
                have hi1 : (m1 : Int) < (M : Int) := by omega
                have hi2 : (0 : Int) < (M : Int) := by omega
                have hi3 : m1 < M := by omega
                clear hcl hcur hfz hma hmb hlx hm1 hm1l h0l hmvl hnM hn3 hk3
                go_upto_region 22 with fail
                have HFS := Lib.hid (show AlS p (rowO p' ii (p'.chs[ii].set jj ⟨p'.chs[ii][jj].act, (mv'.set 0 ⟨bt, bw⟩).set m1 ⟨at_, aw⟩⟩)) vy g b8 W5.heap.size W5 ((((wr.setCell ⟨gm, 0, none⟩ (.int .i64 bt)).setCell ⟨gm, 1, none⟩ (.int .i64 bw)).setCell ⟨gm, m1 * 2, none⟩ (.int .i64 at_)).setCell ⟨gm, m1 * 2 + 1, none⟩ (.int .i64 aw)).drew from
                  HFIN.out _ _ HSWP.out (((((HWR.out.set 0 _).set 1 _).set _ _).set _ _).drew) (HOW2.out wr HOW.out))
                go_region
                go_wp2
                go_roundw
                case rel => exact ⟨k3, jj + 1, _, rfl, by go_num, hjq, HKB.out, HFS.out⟩
                case measure => simp [intOf]; omega
              · have e5 : decide (1 < M) = false := by simp; omega
                have e5' : decide ((1 : Int) < (M : Int)) = false := by simp; omega
                go_wp2
                go_roundw
                case rel => exact ⟨k3, jj + 1, _, rfl, by go_num, hjq, HKB.out, HFIN.out wr mv' HSI.out HWR.out HOW.out⟩
                case measure => simp [intOf]; omega
        · have e2 : decide (jj < q) = false := by simp; omega
          go_wp2
          go_roundw
          case rel => exact ⟨kk, ii + 1, p', rfl, by go_num, hin, by omega, HAS.out⟩
          case measure => simp [intOf]; omega
    · have e1 : decide (ii < p.chs.length) = false := by simp; omega
      have HLK := Lib.hid (show Lk p p' vy g from ⟨by
        have h := HAS.out.sim
        simp only [PV.l]
        rw [h.init, h.nms, h.hds, h.len, HGA.out], HAS.out.sim.sml HS.out⟩)
      have HYM := Lib.hid (show YM p p' v vx vy g w w.heap.size b5 b8 wr [] wr from ⟨HM4.out.below HAS.out.b, HAS.out.by_, HAS.out.pi.mem, Below.refl _ _⟩)
      have HA1 := Lib.hid HAS.out.sim.alike
      have HA2 := Lib.hid (alike_sym HA1.out)
      have HRQ := Lib.hid (HAS.out.sim.right HR.out)
      have HRE := Lib.hid (HAS.out.sim.reach HR.out)
      have HA3 := Lib.hid (show alikeO p p' ↔ true = true from ⟨fun _ => rfl, fun _ => HA1.out⟩)
      have HRL := Lib.hid (show (reachO p).length ≤ 1000000 from Nat.le_trans (reachO_len p) HS.out.ch)
      go_upto_region 23 with fail
      have lk := HYM.out.drew
      clear HYM y0 y1 y2 y3 hkk hii
      refine wp_region_held_drew (S := (fun w' : World => w'.cell? ⟨b5, 0, none⟩ = some (.int .i64 p.init) ∧ w'.cell? ⟨b5, 1, none⟩ = some (.slice vx.A p.chs.length vx.a) ∧ w'.cell? ⟨b5, 2, none⟩ = some (.slice vx.B p.nms.length vx.b) ∧ w'.cell? ⟨b5, 3, none⟩ = some (.slice vx.C p.hds.length vx.c) ∧ w'.cell? ⟨b8, 0, none⟩ = some (.int .i64 p.init) ∧ w'.cell? ⟨b8, 1, none⟩ = some (.slice (some ⟨g, 0, none⟩) p.chs.length vy.a) ∧ w'.cell? ⟨b8, 2, none⟩ = some (.slice vy.B p.nms.length vy.b) ∧ w'.cell? ⟨b8, 3, none⟩ = some (.slice vy.C p.hds.length vy.c))) (by kernel_rfl) (⟨lk.tl.bx.cells4.1, lk.tl.bx.cells4.2.1, lk.tl.bx.cells4.2.2.1, lk.tl.bx.cells4.2.2.2, lk.bY.cells4.1, lk.bY.cells4.2.1, lk.bY.cells4.2.2.1, lk.bY.cells4.2.2.2⟩) (fun hHeld => ?_)
      refine wpAnyH_take (i := 0) (oi := { dst := some 99, op := Op.load 31 (Operand.tmp 9), type := 31, pos := "law.go:145", after := #[], guard := none }) (v := (Value.agg #[.int .i64 p.init, .slice vx.A p.chs.length vx.a, .slice vx.B p.nms.length vx.b, .slice vx.C p.hds.length vx.c])) rfl (by kernel_rfl) (by kernel_rfl) (by kernel_rfl) (fun _ _ _ h => h) (Or.inl ⟨by rfl, ?hy⟩) (by assumption) ?_
      case hy => (intro wz hSw; (try dsimp only at hSw); go_simp)
      simp only [Act.put, List.setIfInBounds_toArray, List.set_cons_zero, List.set_cons_succ]
      refine wpAnyH_take (i := 1) (oi := { dst := some 100, op := Op.load 31 (Operand.tmp 10), type := 31, pos := "law.go:145", after := #[], guard := none }) (v := (Value.agg #[.int .i64 p.init, .slice (some ⟨g, 0, none⟩) p.chs.length vy.a, .slice vy.B p.nms.length vy.b, .slice vy.C p.hds.length vy.c])) rfl (by kernel_rfl) (by kernel_rfl) (by kernel_rfl) (fun _ _ _ h => h) (Or.inl ⟨by rfl, ?hy⟩) (by assumption) ?_
      case hy => (intro wz hSw; (try dsimp only at hSw); go_simp)
      simp only [Act.put, List.setIfInBounds_toArray, List.set_cons_zero, List.set_cons_succ]
      refine wpAnyH_ready (rs := [2]) (by kernel_rfl) (by simp) ?_
      refine AllReadyH.cons (o := { dst := some 101, op := Op.call { callee := Callee.value (Operand.func 19), args := #[Operand.tmp 99, Operand.tmp 100], argTypes := #[31, 31] }, type := 4, pos := "law.go:145", after := #[{ on := 0, ground := Ground.data }, { on := 1, ground := Ground.data }], guard := none }) rfl (fun K0 hK0 => ?_) AllReadyH.nil
      go_simp
      go_at_call 19
      with_reducible refine (lk.aXY HS.out HLK.out HA3.out).mono ?_
      rintro e wA ⟨rfl, lk2⟩
      replace lk := lk2
      clear lk2
      go_wp2_with fail
      refine hK0.out _ _ (⟨lk.tl.bx.cells4.1, lk.tl.bx.cells4.2.1, lk.tl.bx.cells4.2.2.1, lk.tl.bx.cells4.2.2.2, lk.bY.cells4.1, lk.bY.cells4.2.1, lk.bY.cells4.2.2.1, lk.bY.cells4.2.2.2⟩) (fun hHeld => ?_)
      clear hK0 K0
      try simp only [Act.put, List.setIfInBounds_toArray, List.set_cons_zero, List.set_cons_succ]
      refine wpAnyH_take (i := 3) (oi := { dst := some 102, op := Op.unOp UnOp.not 4 (Operand.tmp 101), type := 4, pos := "law.go:145", after := #[{ on := 2, ground := Ground.data }], guard := none }) (v := Value.bool false) rfl (by kernel_rfl) (by kernel_rfl) (by kernel_rfl) (fun _ _ _ h => h) (Or.inl ⟨by rfl, ?hy⟩) (by assumption) ?_
      case hy => (intro wz hSw; (try dsimp only at hSw); go_simp)
      simp only [Act.put, List.setIfInBounds_toArray, List.set_cons_zero, List.set_cons_succ]
      refine wpAnyH_take (i := 4) (oi := { dst := some 103, op := Op.move (Operand.tmp 102), type := 4, pos := "law.go:145", after := #[{ on := 3, ground := Ground.data }, { on := 2, ground := Ground.chain }], guard := none }) (v := Value.bool false) rfl (by kernel_rfl) (by kernel_rfl) (by kernel_rfl) (fun _ _ _ h => h) (Or.inl ⟨by rfl, ?hy⟩) (by assumption) ?_
      case hy => (intro wz hSw; (try dsimp only at hSw); go_simp)
      simp only [Act.put, List.setIfInBounds_toArray, List.set_cons_zero, List.set_cons_succ]
      refine wpAnyH_take (i := 5) (oi := { dst := some 104, op := Op.load 31 (Operand.tmp 10), type := 31, pos := "law.go:145", after := #[{ on := 4, ground := Ground.guard }], guard := some (4, false) }) (v := (Value.agg #[.int .i64 p.init, .slice (some ⟨g, 0, none⟩) p.chs.length vy.a, .slice vy.B p.nms.length vy.b, .slice vy.C p.hds.length vy.c])) rfl (by kernel_rfl) (by kernel_rfl) (by kernel_rfl) (fun _ _ _ h => h) (Or.inl ⟨by rfl, ?hy⟩) (by assumption) ?_
      case hy => (intro wz hSw; (try dsimp only at hSw); go_simp)
      simp only [Act.put, List.setIfInBounds_toArray, List.set_cons_zero, List.set_cons_succ]
      refine wpAnyH_take (i := 6) (oi := { dst := some 105, op := Op.load 31 (Operand.tmp 9), type := 31, pos := "law.go:145", after := #[{ on := 4, ground := Ground.guard }], guard := some (4, false) }) (v := (Value.agg #[.int .i64 p.init, .slice vx.A p.chs.length vx.a, .slice vx.B p.nms.length vx.b, .slice vx.C p.hds.length vx.c])) rfl (by kernel_rfl) (by kernel_rfl) (by kernel_rfl) (fun _ _ _ h => h) (Or.inl ⟨by rfl, ?hy⟩) (by assumption) ?_
      case hy => (intro wz hSw; (try dsimp only at hSw); go_simp)
      simp only [Act.put, List.setIfInBounds_toArray, List.set_cons_zero, List.set_cons_succ]
      refine wpAnyH_ready (rs := [7]) (by kernel_rfl) (by simp) ?_
      refine AllReadyH.cons (o := { dst := some 106, op := Op.call { callee := Callee.value (Operand.func 19), args := #[Operand.tmp 104, Operand.tmp 105], argTypes := #[31, 31] }, type := 4, pos := "law.go:145", after := #[{ on := 5, ground := Ground.data }, { on := 6, ground := Ground.data }, { on := 4, ground := Ground.chain }, { on := 4, ground := Ground.guard }], guard := some (4, false) }) rfl (fun K0 hK0 => ?_) AllReadyH.nil
      go_simp
      go_at_call 19
      with_reducible refine (lk.aYX HS.out HLK.out HA2.out).mono ?_
      rintro e wA ⟨rfl, lk2⟩
      replace lk := lk2
      clear lk2
      go_wp2_with fail
      refine hK0.out _ _ (⟨lk.tl.bx.cells4.1, lk.tl.bx.cells4.2.1, lk.tl.bx.cells4.2.2.1, lk.tl.bx.cells4.2.2.2, lk.bY.cells4.1, lk.bY.cells4.2.1, lk.bY.cells4.2.2.1, lk.bY.cells4.2.2.2⟩) (fun hHeld => ?_)
      clear hK0 K0
      try simp only [Act.put, List.setIfInBounds_toArray, List.set_cons_zero, List.set_cons_succ]
      refine wpAnyH_take (i := 8) (oi := { dst := some 107, op := Op.unOp UnOp.not 4 (Operand.tmp 106), type := 4, pos := "law.go:145", after := #[{ on := 7, ground := Ground.data }, { on := 4, ground := Ground.guard }], guard := some (4, false) }) (v := Value.bool false) rfl (by kernel_rfl) (by kernel_rfl) (by kernel_rfl) (fun _ _ _ h => h) (Or.inl ⟨by rfl, ?hy⟩) (by assumption) ?_
      case hy => (intro wz hSw; (try dsimp only at hSw); go_simp)
      simp only [Act.put, List.setIfInBounds_toArray, List.set_cons_zero, List.set_cons_succ]
      refine wpAnyH_take (i := 9) (oi := { dst := some 108, op := Op.pick (Operand.tmp 103) (Operand.const (Value.bool true)) (Operand.tmp 107), type := 4, pos := "law.go:145", after := #[{ on := 4, ground := Ground.data }, { on := 8, ground := Ground.data }], guard := none }) (v := Value.bool false) rfl (by kernel_rfl) (by kernel_rfl) (by kernel_rfl) (fun _ _ _ h => h) (Or.inl ⟨by rfl, ?hy⟩) (by assumption) ?_
      case hy => (intro wz hSw; (try dsimp only at hSw); go_simp)
      simp only [Act.put, List.setIfInBounds_toArray, List.set_cons_zero, List.set_cons_succ]
      refine wpAnyH_take (i := 10) (oi := { dst := some 109, op := Op.move (Operand.tmp 108), type := 4, pos := "law.go:145", after := #[{ on := 9, ground := Ground.data }, { on := 7, ground := Ground.chain }], guard := none }) (v := Value.bool false) rfl (by kernel_rfl) (by kernel_rfl) (by kernel_rfl) (fun _ _ _ h => h) (Or.inl ⟨by rfl, ?hy⟩) (by assumption) ?_
      case hy => (intro wz hSw; (try dsimp only at hSw); go_simp)
      simp only [Act.put, List.setIfInBounds_toArray, List.set_cons_zero, List.set_cons_succ]
      refine wpAnyH_take (i := 11) (oi := { dst := some 110, op := Op.load 31 (Operand.tmp 10), type := 31, pos := "law.go:145", after := #[{ on := 10, ground := Ground.guard }], guard := some (10, false) }) (v := (Value.agg #[.int .i64 p.init, .slice (some ⟨g, 0, none⟩) p.chs.length vy.a, .slice vy.B p.nms.length vy.b, .slice vy.C p.hds.length vy.c])) rfl (by kernel_rfl) (by kernel_rfl) (by kernel_rfl) (fun _ _ _ h => h) (Or.inl ⟨by rfl, ?hy⟩) (by assumption) ?_
      case hy => (intro wz hSw; (try dsimp only at hSw); go_simp)
      simp only [Act.put, List.setIfInBounds_toArray, List.set_cons_zero, List.set_cons_succ]
      refine wpAnyH_ready (rs := [12]) (by kernel_rfl) (by simp) ?_
      refine AllReadyH.cons (o := { dst := some 111, op := Op.call { callee := Callee.value (Operand.func 9), args := #[Operand.tmp 110], argTypes := #[31] }, type := 34, pos := "law.go:145", after := #[{ on := 11, ground := Ground.data }, { on := 10, ground := Ground.chain }, { on := 10, ground := Ground.guard }], guard := some (10, false) }) rfl (fun K0 hK0 => ?_) AllReadyH.nil
      go_simp
      go_at_call 9
      with_reducible refine (lk.check HLK.out HRQ.out).mono ?_
      rintro e wA ⟨rfl, lk2⟩
      replace lk := lk2
      clear lk2
      go_wp2_with fail
      refine hK0.out _ _ (⟨lk.tl.bx.cells4.1, lk.tl.bx.cells4.2.1, lk.tl.bx.cells4.2.2.1, lk.tl.bx.cells4.2.2.2, lk.bY.cells4.1, lk.bY.cells4.2.1, lk.bY.cells4.2.2.1, lk.bY.cells4.2.2.2⟩) (fun hHeld => ?_)
      clear hK0 K0
      try simp only [Act.put, List.setIfInBounds_toArray, List.set_cons_zero, List.set_cons_succ]
      refine wpAnyH_take (i := 13) (oi := { dst := some 112, op := Op.binOp BinOp.neq 34 (Operand.tmp 111) (Operand.const Value.nilIface) 34, type := 4, pos := "law.go:145", after := #[{ on := 12, ground := Ground.data }, { on := 10, ground := Ground.guard }], guard := some (10, false) }) (v := Value.bool false) rfl (by kernel_rfl) (by kernel_rfl) (by kernel_rfl) (fun _ _ _ h => h) (Or.inl ⟨by rfl, ?hy⟩) (by assumption) ?_
      case hy => (intro wz hSw; (try dsimp only at hSw); go_simp)
      simp only [Act.put, List.setIfInBounds_toArray, List.set_cons_zero, List.set_cons_succ]
      refine wpAnyH_take (i := 14) (oi := { dst := some 113, op := Op.pick (Operand.tmp 109) (Operand.const (Value.bool true)) (Operand.tmp 112), type := 4, pos := "law.go:145", after := #[{ on := 10, ground := Ground.data }, { on := 13, ground := Ground.data }], guard := none }) (v := Value.bool false) rfl (by kernel_rfl) (by kernel_rfl) (by kernel_rfl) (fun _ _ _ h => h) (Or.inl ⟨by rfl, ?hy⟩) (by assumption) ?_
      case hy => (intro wz hSw; (try dsimp only at hSw); go_simp)
      simp only [Act.put, List.setIfInBounds_toArray, List.set_cons_zero, List.set_cons_succ]
      refine wpAnyH_take (i := 15) (oi := { dst := some 114, op := Op.move (Operand.tmp 113), type := 4, pos := "law.go:145", after := #[{ on := 14, ground := Ground.data }, { on := 12, ground := Ground.chain }], guard := none }) (v := Value.bool false) rfl (by kernel_rfl) (by kernel_rfl) (by kernel_rfl) (fun _ _ _ h => h) (Or.inl ⟨by rfl, ?hy⟩) (by assumption) ?_
      case hy => (intro wz hSw; (try dsimp only at hSw); go_simp)
      simp only [Act.put, List.setIfInBounds_toArray, List.set_cons_zero, List.set_cons_succ]
      refine wpAnyH_take (i := 16) (oi := { dst := some 115, op := Op.load 31 (Operand.tmp 9), type := 31, pos := "law.go:145", after := #[{ on := 15, ground := Ground.guard }], guard := some (15, false) }) (v := (Value.agg #[.int .i64 p.init, .slice vx.A p.chs.length vx.a, .slice vx.B p.nms.length vx.b, .slice vx.C p.hds.length vx.c])) rfl (by kernel_rfl) (by kernel_rfl) (by kernel_rfl) (fun _ _ _ h => h) (Or.inl ⟨by rfl, ?hy⟩) (by assumption) ?_
      case hy => (intro wz hSw; (try dsimp only at hSw); go_simp)
      simp only [Act.put, List.setIfInBounds_toArray, List.set_cons_zero, List.set_cons_succ]
      refine wpAnyH_take (i := 18) (oi := { dst := some 117, op := Op.load 31 (Operand.tmp 10), type := 31, pos := "law.go:145", after := #[{ on := 15, ground := Ground.guard }], guard := some (15, false) }) (v := (Value.agg #[.int .i64 p.init, .slice (some ⟨g, 0, none⟩) p.chs.length vy.a, .slice vy.B p.nms.length vy.b, .slice vy.C p.hds.length vy.c])) rfl (by kernel_rfl) (by kernel_rfl) (by kernel_rfl) (fun _ _ _ h => h) (Or.inl ⟨by rfl, ?hy⟩) (by assumption) ?_
      case hy => (intro wz hSw; (try dsimp only at hSw); go_simp)
      simp only [Act.put, List.setIfInBounds_toArray, List.set_cons_zero, List.set_cons_succ]
      refine wpAnyH_ready (rs := [17]) (by kernel_rfl) (by simp) ?_
      refine AllReadyH.cons (o := { dst := some 116, op := Op.call { callee := Callee.value (Operand.func 15), args := #[Operand.tmp 115], argTypes := #[31] }, type := 36, pos := "law.go:145", after := #[{ on := 16, ground := Ground.data }, { on := 15, ground := Ground.chain }, { on := 15, ground := Ground.guard }], guard := some (15, false) }) rfl (fun K0 hK0 => ?_) AllReadyH.nil
      go_simp
      go_at_call 15
      with_reducible refine (lk.reachX HS.out).mono ?_
      rintro e wA ⟨A3, c3, rfl, lk2⟩
      replace lk := lk2
      clear lk2
      go_wp2_with fail
      refine hK0.out _ _ (⟨lk.tl.bx.cells4.1, lk.tl.bx.cells4.2.1, lk.tl.bx.cells4.2.2.1, lk.tl.bx.cells4.2.2.2, lk.bY.cells4.1, lk.bY.cells4.2.1, lk.bY.cells4.2.2.1, lk.bY.cells4.2.2.2⟩) (fun hHeld => ?_)
      clear hK0 K0
      try simp only [Act.put, List.setIfInBounds_toArray, List.set_cons_zero, List.set_cons_succ]
      refine wpAnyH_ready (rs := [19]) (by kernel_rfl) (by simp) ?_
      refine AllReadyH.cons (o := { dst := some 118, op := Op.call { callee := Callee.value (Operand.func 15), args := #[Operand.tmp 117], argTypes := #[31] }, type := 36, pos := "law.go:145", after := #[{ on := 18, ground := Ground.data }, { on := 17, ground := Ground.chain }, { on := 15, ground := Ground.guard }], guard := some (15, false) }) rfl (fun K0 hK0 => ?_) AllReadyH.nil
      go_simp
      go_at_call 15
      with_reducible refine (lk.reachY HLK.out HRE.out).mono ?_
      rintro e wA ⟨A4, c4, rfl, lk2⟩
      replace lk := lk2
      clear lk2
      go_wp2_with fail
      refine hK0.out _ _ (⟨lk.tl.bx.cells4.1, lk.tl.bx.cells4.2.1, lk.tl.bx.cells4.2.2.1, lk.tl.bx.cells4.2.2.2, lk.bY.cells4.1, lk.bY.cells4.2.1, lk.bY.cells4.2.2.1, lk.bY.cells4.2.2.2⟩) (fun hHeld => ?_)
      clear hK0 K0
      try simp only [Act.put, List.setIfInBounds_toArray, List.set_cons_zero, List.set_cons_succ]
      refine wpAnyH_ready (rs := [20]) (by kernel_rfl) (by simp) ?_
      refine AllReadyH.cons (o := { dst := some 119, op := Op.call { callee := Callee.value (Operand.func 14), args := #[Operand.tmp 116, Operand.tmp 118], argTypes := #[36, 36] }, type := 4, pos := "law.go:145", after := #[{ on := 17, ground := Ground.data }, { on := 19, ground := Ground.data }, { on := 19, ground := Ground.chain }, { on := 15, ground := Ground.guard }], guard := some (15, false) }) rfl (fun K0 hK0 => ?_) AllReadyH.nil
      go_simp
      go_at_call 14
      with_reducible refine (lk.ints (A := A3) (B := A4) (by simp) (by simp) HRL.out).mono ?_
      rintro e wA ⟨rfl, lk2⟩
      replace lk := lk2
      clear lk2
      go_wp2_with fail
      refine hK0.out _ _ (⟨lk.tl.bx.cells4.1, lk.tl.bx.cells4.2.1, lk.tl.bx.cells4.2.2.1, lk.tl.bx.cells4.2.2.2, lk.bY.cells4.1, lk.bY.cells4.2.1, lk.bY.cells4.2.2.1, lk.bY.cells4.2.2.2⟩) (fun hHeld => ?_)
      clear hK0 K0
      try simp only [Act.put, List.setIfInBounds_toArray, List.set_cons_zero, List.set_cons_succ]
      refine wpAnyH_take (i := 21) (oi := { dst := some 120, op := Op.unOp UnOp.not 4 (Operand.tmp 119), type := 4, pos := "law.go:145", after := #[{ on := 20, ground := Ground.data }, { on := 15, ground := Ground.guard }], guard := some (15, false) }) (v := Value.bool false) rfl (by kernel_rfl) (by kernel_rfl) (by kernel_rfl) (fun _ _ _ h => h) (Or.inl ⟨by rfl, ?hy⟩) (by assumption) ?_
      case hy => (intro wz hSw; (try dsimp only at hSw); go_simp)
      simp only [Act.put, List.setIfInBounds_toArray, List.set_cons_zero, List.set_cons_succ]
      refine wpAnyH_take (i := 22) (oi := { dst := some 121, op := Op.pick (Operand.tmp 114) (Operand.const (Value.bool true)) (Operand.tmp 120), type := 4, pos := "law.go:145", after := #[{ on := 15, ground := Ground.data }, { on := 21, ground := Ground.data }], guard := none }) (v := Value.bool false) rfl (by kernel_rfl) (by kernel_rfl) (by kernel_rfl) (fun _ _ _ h => h) (Or.inl ⟨by rfl, ?hy⟩) (by assumption) ?_
      case hy => (intro wz hSw; (try dsimp only at hSw); go_simp)
      simp only [Act.put, List.setIfInBounds_toArray, List.set_cons_zero, List.set_cons_succ]
      refine wpAnyH_done (by kernel_rfl) ?_ _
      obtain ⟨y0, y1, y2, y3⟩ := lk.bY.cells4
      clear hHeld
      have hb8l : b8 < wr.heap.size := HAS.out.by_.lt
      have hpi := HAS.out.pi.keep (Kp.of lk.bb (by omega))
      obtain ⟨i, hi⟩ : ∃ i, i = s % p.chs.length := ⟨_, rfl⟩
      have hin : i < p.chs.length := by rw [hi]; exact Nat.mod_lt _ (by omega)
      have eI : (s : Int) % (p.chs.length : Int) = (i : Int) := by rw [hi]; simp
      have hi' : i < p'.chs.length := by rw [HAS.out.sim.len]; exact hin
      have hql : p'.chs[i].length = p.chs[i].length := (HAS.out.sim.ch i hin hi').1
      obtain ⟨q, hq⟩ : ∃ q, q = p.chs[i].length := ⟨_, rfl⟩
      have hq0 : 0 < q := by rw [hq]; exact List.length_pos_iff.2 (HR.out.2.2.2.2.1 _ (List.getElem_mem hin)).1
      have hq10 : q ≤ 10 := by rw [hq]; exact HFEW.out.cs _ (List.getElem_mem hin)
      rw [← hq] at hql
      obtain ⟨j, hj⟩ : ∃ j, j = c % q := ⟨_, rfl⟩
      have hjq : j < q := by rw [hj]; exact Nat.mod_lt _ hq0
      have eJ : (c : Int) % (q : Int) = (j : Int) := by rw [hj]; simp
      have hj' : j < p'.chs[i].length := by rw [hql]; exact hjq
      have hj0 : j < p.chs[i].length := by rw [← hq]; exact hjq
      have HQ := Lib.hid hq
      clear hi hj hq
      obtain ⟨g', gc, cap, A3, cap3, hgA', hglo, hghi, z0, z1, z2, z3, z4, ⟨cur, hcur⟩, z5, z6, -, hput⟩ := hpi.put hi' hj'
      have hgg := HGA.out.symm.trans hgA'
      injection hgg with hgg
      injection hgg with hgg
      subst hgg
      rw [hql] at z0
      have HPUT := Lib.hid hput
      clear hput hgA'
      obtain ⟨act, hact⟩ : ∃ a, a = p'.chs[i][j].act := ⟨_, rfl⟩
      rw [← hact] at z1
      have hsa : act.size ≤ 140737488351232 := by
        have h1 : p'.chs[i][j].act = p.chs[i][j].act := ((HAS.out.sim.ch i hin hi').2 j hj0 hj').1
        rw [hact, h1]
        exact HSZ.out _ (List.getElem_mem hin) _ (List.getElem_mem hj0)
      have hsb : ¬ 9223372036854775807 < act.size + 1 := by omega
      have hsb2 : act.size + 1 ≤ 9223372036854775807 := by omega
      have HACT := Lib.hid hact
      clear hact
      have hne1 : ¬ (p.chs.length : Int) = 0 := by omega
      have hne2 : ¬ p.chs = [] := fun e => by rw [e] at hn1; simp at hn1
      have hne3 : ((p.chs.length : Int) == 0) = false := by rw [beq_eq_false_iff_ne]; exact hne1
      have hne4 : ¬ (q : Int) = 0 := by omega
      have hne5 : ((q : Int) == 0) = false := by rw [beq_eq_false_iff_ne]; exact hne4
      have hne6 : ¬ q = 0 := by omega
      have hi0 : (0 : Int) ≤ (i : Int) := Int.natCast_nonneg _
      have hi1 : (i : Int) < (p.chs.length : Int) := by omega
      have hj00 : (0 : Int) ≤ (j : Int) := Int.natCast_nonneg _
      have hj1 : (j : Int) < (q : Int) := by omega
      have eW1 : IntKind.i64.wrap (s : Int) = (s : Int) := IntWalk.i64_in _ (by omega)
      have eW2 : IntKind.i64.wrap (c : Int) = (c : Int) := IntWalk.i64_in _ (by omega)
      have eI2 : Int.tmod (s : Int) (p.chs.length : Int) = (i : Int) := by rw [Int.tmod_eq_emod_of_nonneg (by omega), eI]
      have eJ2 : Int.tmod (c : Int) (q : Int) = (j : Int) := by rw [Int.tmod_eq_emod_of_nonneg (by omega), eJ]
      have ffz : wA.frozen? ⟨gc, j * 2, none⟩ = false := Bx.frozen (q := gc) (t := 49) (cs := cur.toList) hcur _
      have hgcl : gc < wA.heap.size := blk_lt hcur
      have hb8a : b8 < wA.heap.size := lk.bY.lt
      have hgA : g < wA.heap.size := by omega
      have HLKA := Lib.hid lk
      have HGGC := Lib.hid z6
      have HCUR := Lib.hid hcur
      have HZ1 := Lib.hid z1
      have HZ2 := Lib.hid z2
      have HZ3 := Lib.hid z4
      have HZ5 := Lib.hid z5
      have HHJ := Lib.hid hj'
      have HHI := Lib.hid hi'
      have HHIN := Lib.hid hin
      have HHJ0 := Lib.hid hj0
      have HZM := Lib.hid z3
      clear lk hcur z4 z5 z6 z3 hpi
      have HY1 := Lib.hid (show YM p (rowO p' i (p'.chs[i].set j ⟨act ++ ⟨#[120]⟩, p'.chs[i][j].mv⟩)) v vx vy g w w.heap.size b5 b8 (wA.setCell ⟨gc, j * 2, none⟩ (.string (act ++ ⟨#[120]⟩))).drew [] (wA.setCell ⟨gc, j * 2, none⟩ (.string (act ++ ⟨#[120]⟩))).drew from by
        obtain ⟨t1, t2⟩ := bx_set HCUR.out (j * 2) (.string (act ++ ⟨#[120]⟩))
        have hwr : Wr gc wA (wA.setCell ⟨gc, j * 2, none⟩ (.string (act ++ ⟨#[120]⟩))).drew := ((Wr.refl _ _).set _ _).drew
        have hb0 : Below W5.heap.size wr wA := HLKA.out.bb.mono (by omega)
        have hb1 := (HAS.out.b.trans hb0).trans (hwr.below hglo)
        exact ⟨HM4.out.below hb1, hwr.bx HLKA.out.bY (by omega), HPUT.out _ ⟨act ++ ⟨#[120]⟩, p'.chs[i][j].mv⟩ cap3 hwr (fun x h1 _ => t1 x h1) (t2 _ HZ1.out) ((t1 _ (by omega)).trans HZ2.out) HZM.out (HZ3.out.wr hwr HZ5.out), Below.refl _ _⟩)
      have HLK1 := Lib.hid (show Lk p (rowO p' i (p'.chs[i].set j ⟨act ++ ⟨#[120]⟩, p'.chs[i][j].mv⟩)) vy g from ⟨by have := HLK.out.l; simpa [PV.l, rowO] using this, sml_chO HHI.out HLK.out.s (show p'.chs[i][j].mv.length ≤ 1000000 from HLK.out.s.mv _ (List.getElem_mem HHI.out) _ (List.getElem_mem HHJ.out))⟩)
      have HNA1 := Lib.hid (show alikeO p (rowO p' i (p'.chs[i].set j ⟨act ++ ⟨#[120]⟩, p'.chs[i][j].mv⟩)) ↔ false = true from ⟨fun h => absurd (alike_trans HA2.out h) (alike_row HHI.out (keys_act HHJ.out (by rw [← HACT.out]; exact act_more _ _ (by decide)))), fun h => by cases h⟩)
      have HBW27 := Lib.hid (show Below W5.heap.size W5 (wA.setCell ⟨gc, j * 2, none⟩ (.string (act ++ ⟨#[120]⟩))).drew from by
        have hwr : Wr gc wA (wA.setCell ⟨gc, j * 2, none⟩ (.string (act ++ ⟨#[120]⟩))).drew := ((Wr.refl _ _).set _ _).drew
        have hb0 : Below W5.heap.size wr wA := HLKA.out.bb.mono (by omega)
        exact (HAS.out.b.trans hb0).trans (hwr.below hglo))
      have HSW27 := Lib.hid HBW27.out.size
      go_upto_region 27 with fail
      go_region
      generalize rowO p' i (p'.chs[i].set j ⟨act ++ ⟨#[120]⟩, p'.chs[i][j].mv⟩) = p1 at *
      generalize (wA.setCell ⟨gc, j * 2, none⟩ (.string (act ++ ⟨#[120]⟩))).drew = W27 at *
      clear hsa hsb hsb2 y0 y1 y2 y3 z0 z1 z2 ffz HPUT HLKA HCUR HZ1 HZ2 HZ3 HZ5 HZM HGGC HACT
      obtain ⟨x0, x1, x2, x3⟩ := HY1.out.tl.bx.cells4
      obtain ⟨y0, y1, y2, y3⟩ := HY1.out.bY.cells4
      go_wp2_with fail
      with_reducible refine (HY1.out.aXY HS.out HLK1.out HNA1.out).mono ?_
      rintro e W28 ⟨rfl, lk⟩
      have HLB := Lib.hid lk
      clear lk x0 x1 x2 x3 y0 y1 y2 y3 HY1 HLK1 HNA1
      obtain ⟨x0, x1, x2, x3⟩ := HLB.out.tl.bm.cells4
      have HOF := Lib.hid (of_any W28 HLB.out.tl.m HS.out)
      change Hid (Calls Tryd.prog 8 #[.agg #[.int .i64 p.init, .slice v.A p.chs.length v.a, .slice v.B p.nms.length v.b, .slice v.C p.hds.length v.c]] W28 (OfP p W28)) at HOF
      go_wp2_with fail
      with_reducible refine (HOF.out).mono ?_
      rintro e w30 ⟨vz, rfl, hpi, hb30⟩
      dsimp only [PV.l]
      have HBY := Lib.hid (HLB.out.bY.below hb30)
      obtain ⟨y0, y1, y2, y3⟩ := HBY.out.cells4
      have f0 := HBY.out.frozen 0
      have f1 := HBY.out.frozen 1
      have f2 := HBY.out.frozen 2
      have f3 := HBY.out.frozen 3
      obtain ⟨g2, l2, r2, B2, cap2, rc2, cur2, hgA2, -⟩ := hpi.row HHIN.out
      have HGA2 := Lib.hid hgA2
      rw [hgA2]
      have hb8w : b8 < W28.heap.size := HLB.out.bY.lt
      clear l2 r2 B2 cap2 rc2 cur2
      have HW30 := Lib.hid (show Wr b8 w30 ((((w30.setCell ⟨b8, 0, none⟩ (.int .i64 p.init)).setCell ⟨b8, 1, none⟩ (.slice (some ⟨g2, 0, none⟩) p.chs.length vz.a)).setCell ⟨b8, 2, none⟩ (.slice vz.B p.nms.length vz.b)).setCell ⟨b8, 3, none⟩ (.slice vz.C p.hds.length vz.c)) from ((((Wr.refl _ _).set _ _).set _ _).set _ _).set _ _)
      have HB30 := Lib.hid (show Bx ((((w30.setCell ⟨b8, 0, none⟩ (.int .i64 p.init)).setCell ⟨b8, 1, none⟩ (.slice (some ⟨g2, 0, none⟩) p.chs.length vz.a)).setCell ⟨b8, 2, none⟩ (.slice vz.B p.nms.length vz.b)).setCell ⟨b8, 3, none⟩ (.slice vz.C p.hds.length vz.c)) b8 31 [.int .i64 p.init, .slice (some ⟨g2, 0, none⟩) p.chs.length vz.a, .slice vz.B p.nms.length vz.b, .slice vz.C p.hds.length vz.c] from HBY.out.set4)
      have HPI := Lib.hid hpi
      have HBE := Lib.hid hb30
      clear hpi hb30 hgA2
      go_upto_region 31 with fail
      generalize (((w30.setCell ⟨b8, 0, none⟩ (.int .i64 p.init)).setCell ⟨b8, 1, none⟩ (.slice (some ⟨g2, 0, none⟩) p.chs.length vz.a)).setCell ⟨b8, 2, none⟩ (.slice vz.B p.nms.length vz.b)).setCell ⟨b8, 3, none⟩ (.slice vz.C p.hds.length vz.c) = W30 at *
      clear x0 x1 x2 x3 y0 y1 y2 y3 f0 f1 f2 f3 HOF HBY
      have hpi : PrI W30 W28.heap.size w30.heap.size vz p := HPI.out.keep (fun k _ _ k1 _ _ k4 => (HW30.out.2 k (by omega)).trans k4)
      have HBW30 := Lib.hid (show Below W5.heap.size W5 W30 from by
        have h1 := below_t (HLB.out.bb) HBE.out
        exact HBW27.out.trans ((h1.mono HSW27.out).trans (HW30.out.below hz6)))
      obtain ⟨g', gc2, cap2, A4, cap4, hgA', hglo2, hghi2, z0, z1, z2, z3, z4, ⟨cur2, hcur2⟩, z5, z6, z7, hput⟩ := hpi.put HHIN.out HHJ0.out
      have hgg := HGA2.out.symm.trans hgA'
      injection hgg with hgg
      injection hgg with hgg
      subst hgg
      rw [← HQ.out] at z0
      have hmp : 0 < p.chs[i][j].mv.length := List.length_pos_iff.2 ((HR.out.2.2.2.2.1 _ (List.getElem_mem HHIN.out)).2 _ (List.getElem_mem HHJ0.out)).1
      obtain ⟨gm2, rfl⟩ := z7 hmp
      obtain ⟨M, hM⟩ : ∃ M, M = p.chs[i][j].mv.length := ⟨_, rfl⟩
      have hM20 : M ≤ 20 := by rw [hM]; exact HFEW.out.mv _ (List.getElem_mem HHIN.out) _ (List.getElem_mem HHJ0.out)
      obtain ⟨m1, hm1⟩ : ∃ m1, M = m1 + 1 := ⟨M - 1, by omega⟩
      replace z2 : W30.cell? ⟨gc2, j * 2 + 1, none⟩ = some (.slice (some ⟨gm2, 0, none⟩) M cap4) := by rw [hM]; exact z2
      replace z3 : M ≤ cap4 := by rw [hM]; exact z3
      obtain ⟨y0, y1, y2, y3⟩ := HB30.out.cells4
      have hszW : W28.heap.size ≤ w30.heap.size := HBE.out.size
      have hszW2 : w30.heap.size ≤ W30.heap.size := HW30.out.1.size
      have hlow : W5.heap.size ≤ gc2 := by have := HBW27.out.size; have := HLB.out.bb.size; omega
      have ffz : W30.frozen? ⟨gc2, j * 2 + 1, none⟩ = false := Bx.frozen (q := gc2) (t := 49) (cs := cur2.toList) hcur2 _
      have hgcl2 : gc2 < W30.heap.size := blk_lt hcur2
      have hb83 : b8 < W30.heap.size := by omega
      have hlt2 : (p.chs[i][j].mv.take m1).length = m1 := by rw [List.length_take]; omega
      have HY2 := Lib.hid (show YM p (rowO p i (p.chs[i].set j ⟨p.chs[i][j].act, p.chs[i][j].mv.take m1⟩)) v vx vz g2 w w.heap.size b5 b8 (W30.setCell ⟨gc2, j * 2 + 1, none⟩ (.slice (some ⟨gm2, 0, none⟩) m1 cap4)).drew [] (W30.setCell ⟨gc2, j * 2 + 1, none⟩ (.slice (some ⟨gm2, 0, none⟩) m1 cap4)).drew from by
        obtain ⟨t1, t2⟩ := bx_set hcur2 (j * 2 + 1) (.slice (some ⟨gm2, 0, none⟩) m1 cap4)
        have hwr : Wr gc2 W30 (W30.setCell ⟨gc2, j * 2 + 1, none⟩ (.slice (some ⟨gm2, 0, none⟩) m1 cap4)).drew := ((Wr.refl _ _).set _ _).drew
        exact ⟨HM4.out.below (HBW30.out.trans (hwr.below hlow)), hwr.bx HB30.out (by omega), hput _ ⟨p.chs[i][j].act, p.chs[i][j].mv.take m1⟩ cap4 hwr (fun x _ h2 => t1 x h2) ((t1 _ (by omega)).trans z1) (by rw [hlt2]; exact t2 _ z2) (by rw [hlt2]; omega) ((z4.take m1).wr hwr z5), Below.refl _ _⟩)
      have HLK2 := Lib.hid (show Lk p (rowO p i (p.chs[i].set j ⟨p.chs[i][j].act, p.chs[i][j].mv.take m1⟩)) vz g2 from ⟨by simp only [PV.l, rowO, List.length_set, HGA2.out], sml_chO HHIN.out HS.out (by rw [hlt2]; omega)⟩)
      have HNA2 := Lib.hid (show alikeO p (rowO p i (p.chs[i].set j ⟨p.chs[i][j].act, p.chs[i][j].mv.take m1⟩)) ↔ false = true from ⟨fun h => absurd h (alike_row HHIN.out (keys_mv HHJ0.out (by rw [hlt2]; omega))), fun h => by cases h⟩)
      have HBW32 := Lib.hid (show Below W5.heap.size W5 (W30.setCell ⟨gc2, j * 2 + 1, none⟩ (.slice (some ⟨gm2, 0, none⟩) m1 cap4)).drew from HBW30.out.trans ((((Wr.refl _ _).set _ _).drew : Wr gc2 W30 _).below hlow))
      have HSW32 := Lib.hid HBW32.out.size
      have eM1 : (M : Int) - 1 = (m1 : Int) := by omega
      have eM3 : IntKind.i64.wrap (m1 : Int) = (m1 : Int) := IntWalk.i64_in _ (by omega)
      have eM2 : IntKind.i64.wrap ((M : Int) - 1) = (m1 : Int) := by rw [eM1]; exact eM3
      have hs0 : (0 : Int) ≤ (m1 : Int) := by omega
      have hs1 : (m1 : Int) ≤ (cap4 : Int) := by omega
      have hs2 : m1 ≤ cap4 := by omega
      have z2' := z2
      clear hput hcur2 z1 z3 z4 z5 z6 z7 hgA' hpi hM hmp hlt2
      go_upto_region 32 with fail
      go_region
      generalize rowO p i (p.chs[i].set j ⟨p.chs[i][j].act, p.chs[i][j].mv.take m1⟩) = p2 at *
      generalize (W30.setCell ⟨gc2, j * 2 + 1, none⟩ (.slice (some ⟨gm2, 0, none⟩) m1 cap4)).drew = W32 at *
      clear y0 y1 y2 y3 z0 z2 z2' ffz eM1 eM2 eM3 hs0 hs1 hs2 hm1 HLB HB30 HW30 HBW30 HPI HBE HBW27 HSW27 hszW hszW2 hlow hgcl2 hb83 hglo2 hghi2 hb8w
      obtain ⟨x0, x1, x2, x3⟩ := HY2.out.tl.bx.cells4
      obtain ⟨y0, y1, y2, y3⟩ := HY2.out.bY.cells4
      go_wp2_with fail
      with_reducible refine (HY2.out.aXY HS.out HLK2.out HNA2.out).mono ?_
      rintro e W33 ⟨rfl, lk⟩
      have HLB := Lib.hid lk
      clear lk x0 x1 x2 x3 y0 y1 y2 y3 HY2 HLK2 HNA2
      obtain ⟨x0, x1, x2, x3⟩ := HLB.out.tl.bm.cells4
      have HOF := Lib.hid (of_any W33 HLB.out.tl.m HS.out)
      change Hid (Calls Tryd.prog 8 #[.agg #[.int .i64 p.init, .slice v.A p.chs.length v.a, .slice v.B p.nms.length v.b, .slice v.C p.hds.length v.c]] W33 (OfP p W33)) at HOF
      go_wp2_with fail
      with_reducible refine (HOF.out).mono ?_
      rintro e w30 ⟨vq, rfl, hpi, hb30⟩
      dsimp only [PV.l]
      have HBY := Lib.hid (HLB.out.bY.below hb30)
      obtain ⟨y0, y1, y2, y3⟩ := HBY.out.cells4
      have f0 := HBY.out.frozen 0
      have f1 := HBY.out.frozen 1
      have f2 := HBY.out.frozen 2
      have f3 := HBY.out.frozen 3
      obtain ⟨g3, l2, r2, B2, cap2, rc2, cur2, hgA2, -⟩ := hpi.row HHIN.out
      have HGA3 := Lib.hid hgA2
      rw [hgA2]
      have hb8w : b8 < W33.heap.size := HLB.out.bY.lt
      clear l2 r2 B2 cap2 rc2 cur2
      have HW30 := Lib.hid (show Wr b8 w30 ((((w30.setCell ⟨b8, 0, none⟩ (.int .i64 p.init)).setCell ⟨b8, 1, none⟩ (.slice (some ⟨g3, 0, none⟩) p.chs.length vq.a)).setCell ⟨b8, 2, none⟩ (.slice vq.B p.nms.length vq.b)).setCell ⟨b8, 3, none⟩ (.slice vq.C p.hds.length vq.c)) from ((((Wr.refl _ _).set _ _).set _ _).set _ _).set _ _)
      have HB30 := Lib.hid (show Bx ((((w30.setCell ⟨b8, 0, none⟩ (.int .i64 p.init)).setCell ⟨b8, 1, none⟩ (.slice (some ⟨g3, 0, none⟩) p.chs.length vq.a)).setCell ⟨b8, 2, none⟩ (.slice vq.B p.nms.length vq.b)).setCell ⟨b8, 3, none⟩ (.slice vq.C p.hds.length vq.c)) b8 31 [.int .i64 p.init, .slice (some ⟨g3, 0, none⟩) p.chs.length vq.a, .slice vq.B p.nms.length vq.b, .slice vq.C p.hds.length vq.c] from HBY.out.set4)
      have HPI := Lib.hid hpi
      have HBE := Lib.hid hb30
      clear hpi hb30 hgA2
      go_upto_region 36 with fail
      generalize (((w30.setCell ⟨b8, 0, none⟩ (.int .i64 p.init)).setCell ⟨b8, 1, none⟩ (.slice (some ⟨g3, 0, none⟩) p.chs.length vq.a)).setCell ⟨b8, 2, none⟩ (.slice vq.B p.nms.length vq.b)).setCell ⟨b8, 3, none⟩ (.slice vq.C p.hds.length vq.c) = W30 at *
      clear x0 x1 x2 x3 y0 y1 y2 y3 f0 f1 f2 f3 HOF HBY
      have hpi : PrI W30 W33.heap.size w30.heap.size vq p := HPI.out.keep (fun k _ _ k1 _ _ k4 => (HW30.out.2 k (by omega)).trans k4)
      have HBW30 := Lib.hid (show Below W5.heap.size W5 W30 from by
        have h1 := below_t (HLB.out.bb) HBE.out
        exact HBW32.out.trans ((h1.mono HSW32.out).trans (HW30.out.below hz6)))
      obtain ⟨g', l3, r3, B3, cap3, rc3, cur3, hgA', hlg3, hgh3, hlo3, hlr3, hrh3, hcell, hcur3, hm5, hob, hli, hre⟩ := hpi.row HHIN.out
      have hgg := HGA3.out.symm.trans hgA'
      injection hgg with hgg
      injection hgg with hgg
      subst hgg
      have hq1 : p.chs[i].length = q := HQ.out.symm
      have hq0' : 0 < p.chs[i].length := by omega
      obtain ⟨-, -, a2, a3⟩ := own_cells hm5
      obtain ⟨gB, rfl⟩ := a2 hq0'
      obtain ⟨-, -, c0, t1, t2, -, -, -, ⟨A0, cap0, rfl, -, -⟩, hrc, hr0, -⟩ := hli.at2 chI_len hq0'
      have hrc1 : rc3[1]? = some (.slice A0 p.chs[i][0].mv.length cap0) := by rw [hrc]; exact (mid_get (j := 1) hr0 (by simp)).trans rfl
      have hrc0 : rc3[0]? = some (.string p.chs[i][0].act) := by rw [hrc]; exact (mid_get (j := 0) hr0 (by simp)).trans rfl
      have n0 := a3 gB rfl 0 _ hrc0
      have n1 := a3 gB rfl 1 _ hrc1
      obtain ⟨i1, hi1, hy⟩ := Option.map_eq_some_iff.1 infoCh
      simp only [Prod.mk.injEq] at hy
      obtain ⟨hy0, hy1, hy2⟩ := hy
      have HJ := Lib.hid hi1
      have HYa := Lib.hid hy0
      have HYb := Lib.hid hy1
      have HYc := Lib.hid hy2
      clear hi1 hy0 hy1 hy2 hrc hr0 t1 t2 hgA'
      obtain ⟨act0, hact0⟩ : ∃ a, a = p.chs[i][0].act := ⟨_, rfl⟩
      obtain ⟨M0, hM0⟩ : ∃ a, a = p.chs[i][0].mv.length := ⟨_, rfl⟩
      have HKEYS := Lib.hid (show keys p.chs[i] ≠ keys (p.chs[i] ++ [p.chs[i][0]]) from keys_len (by simp))
      have HSML := Lib.hid (show Sml (rowO p i (p.chs[i] ++ [p.chs[i][0]])) from sml_rowO HS.out (by rw [List.length_append]; simp; omega) (fun c hc => by
        rcases List.mem_append.1 hc with hc | hc
        · exact HS.out.mv _ (List.getElem_mem HHIN.out) _ hc
        · obtain rfl := List.mem_singleton.1 hc
          exact HS.out.mv _ (List.getElem_mem HHIN.out) _ (List.getElem_mem hq0')))
      obtain ⟨p3, hp3⟩ : ∃ p3, p3 = rowO p i (p.chs[i] ++ [p.chs[i][0]]) := ⟨_, rfl⟩
      have HNA3 := Lib.hid (show alikeO p p3 ↔ false = true from ⟨fun h => absurd (hp3 ▸ h) (alike_row HHIN.out HKEYS.out), fun h => by cases h⟩)
      have HLK3 := Lib.hid (show Lk p p3 vq g3 from ⟨by rw [hp3]; simp only [PV.l, rowO, List.length_set, HGA3.out], by rw [hp3]; exact HSML.out⟩)
      have hw30 := HW30.out.1.size
      have HMORE := Lib.hid (show ∀ (wA' w5 : World) (g5 cap5 : Nat), Below W30.heap.size W30 wA' → wA'.grownBy w5 (Value.slice (some ⟨gB, 0, none⟩) q cap3).ownBlock → w5.ownsRow l3 49 2 (.slice (some ⟨g5, 0, none⟩) (q + 1) cap5) (q + 1) (rc3 ++ [.string act0, .slice A0 M0 cap0]) →
          PrM (w5.setCell ⟨g3, i, none⟩ (.slice (some ⟨g5, 0, none⟩) (q + 1) cap5)) vq p3 ∧ Below W33.heap.size W30 (w5.setCell ⟨g3, i, none⟩ (.slice (some ⟨g5, 0, none⟩) (q + 1) cap5)) from fun wA' w5 g5 cap5 h1 h2 h3 => by
        have hq := HQ.out
        subst hq hact0 hM0 hp3
        exact more_mem (v := vq) (p := p) h1 hw30 hlo3 hrh3 hlg3 hgh3 hcur3 HHIN.out hq0' hcell hm5 hob hli hrc1 hre h2 h3)
      replace hcell : W30.cell? ⟨g3, i, none⟩ = some (.slice (some ⟨gB, 0, none⟩) q cap3) := by rw [HQ.out]; exact hcell
      replace hm5 : W30.ownsRow l3 49 2 (.slice (some ⟨gB, 0, none⟩) q cap3) q rc3 := by rw [HQ.out]; exact hm5
      replace n0 : W30.cell? ⟨gB, 0, none⟩ = some (.string act0) := by rw [hact0]; exact n0
      replace n1 : W30.cell? ⟨gB, 1, none⟩ = some (.slice A0 M0 cap0) := by rw [hM0]; exact n1
      clear hob hact0 hM0 hp3 hrc0 hrc1 a3 hre hli
      obtain ⟨y0, y1, y2, y3⟩ := HB30.out.cells4
      have hgl3 : g3 < W30.heap.size := blk_lt hcur3
      obtain ⟨curB, hcurB⟩ := own_heap hm5
      have hgBl : gB < W30.heap.size := blk_lt hcurB
      have hlW : W33.heap.size ≤ w30.heap.size := HBE.out.size
      have hW30s : w30.heap.size ≤ W30.heap.size := HW30.out.1.size
      have hb83 : b8 < W30.heap.size := by omega
      have hgb : ¬ g3 = b8 := by omega
      have hgb' : ¬ b8 = g3 := by omega
      have hlow : W5.heap.size ≤ W33.heap.size := by have := HBW32.out.size; have := HLB.out.bb.size; omega
      have ffz : W30.frozen? ⟨g3, i, none⟩ = false := Bx.frozen (q := g3) (t := 50) (cs := cur3.toList) hcur3 i
      have hqpos : (0 : Int) < (q : Int) := by omega
      have HBa := Lib.hid (show Below W30.heap.size W30 (W30.alloc (.cells #[.string act0, .slice A0 M0 cap0] 49)).drew from (below_alloc W30 (.cells #[.string act0, .slice A0 M0 cap0] 49)).drew)
      have HOWN := Lib.hid (own_belowM hm5 HBa.out)
      have HNB2 := Lib.hid ((Bx.new W30 49 [.string act0, .slice A0 M0 cap0]).below ((Below.refl _ _).drew))
      have HS8 := Lib.hid (show (fun w' : World => w'.cell? ⟨b8, 1, none⟩ = some (.slice (some ⟨g3, 0, none⟩) p.chs.length vq.a)) W30.drew from y1)
      have HS8a := Lib.hid (show (fun w' : World => w'.cell? ⟨b8, 1, none⟩ = some (.slice (some ⟨g3, 0, none⟩) p.chs.length vq.a)) (W30.alloc (.cells #[.string act0, .slice A0 M0 cap0] 49)).drew from cell_blw HBa.out y1)
      have HFZ := Lib.hid (show ∀ w5 : World, ((W30.alloc (.cells #[.string act0, .slice A0 M0 cap0] 49)).drew).grownBy w5 (Value.slice (some ⟨gB, 0, none⟩) q cap3).ownBlock → w5.frozen? ⟨g3, i, none⟩ = false ∧ w5.cell? ⟨g3, i, none⟩ = some (.slice (some ⟨gB, 0, none⟩) q cap3) ∧ (fun w' : World => w'.cell? ⟨b8, 1, none⟩ = some (.slice (some ⟨g3, 0, none⟩) p.chs.length vq.a)) w5 from fun w5 hgrow => by
        have hz := HBa.out.size
        have h1 := (HBa.out.block g3 hgl3).trans hcur3
        have h2 := (hgrow.block g3 (by omega) (own_other HOWN.out h1 (by decide))).trans h1
        have h3 := HB30.out.below HBa.out
        have h4 : Bx w5 b8 31 _ := (hgrow.block b8 (by omega) (own_other HOWN.out h3 (by decide))).trans h3
        exact ⟨Bx.frozen (q := g3) (t := 50) (cs := cur3.toList) h2 i, (Bx.cell (q := g3) (t := 50) (cs := cur3.toList) h2 i).trans ((Bx.cell (q := g3) (t := 50) (cs := cur3.toList) hcur3 i).symm.trans hcell), h4.cell 1⟩)
      have HGM := Lib.hid (show ∀ (g5 cap5 : Nat) (w5 : World), ((W30.alloc (.cells #[.string act0, .slice A0 M0 cap0] 49)).drew).grownBy w5 (Value.slice (some ⟨gB, 0, none⟩) q cap3).ownBlock → w5.ownsRow l3 49 2 (.slice (some ⟨g5, 0, none⟩) (q + 1) cap5) (q + 1) (rc3 ++ [.string act0, .slice A0 M0 cap0]) →
          YM p p3 v vx vq g3 w w.heap.size b5 b8 (w5.setCell ⟨g3, i, none⟩ (.slice (some ⟨g5, 0, none⟩) (q + 1) cap5)) [] (w5.setCell ⟨g3, i, none⟩ (.slice (some ⟨g5, 0, none⟩) (q + 1) cap5)) from fun g5 cap5 w5 hg5 ho5 => by
        obtain ⟨h1, h2⟩ := HMORE.out _ w5 g5 cap5 HBa.out hg5 ho5
        have hz := HBa.out.size
        have h3 := HB30.out.below HBa.out
        have h4 : Bx w5 b8 31 _ := (hg5.block b8 (by omega) (own_other HOWN.out h3 (by decide))).trans h3
        exact ⟨HM4.out.below (HBW30.out.trans (h2.mono hlow)), h4.put hgb', h1, Below.refl _ _⟩)
      clear hm5 hcur3 hcurB y0 y2 y3 hpi hq1
      go_cut [] from 187 to 204 (fun W => YM p p3 v vx vq g3 w w.heap.size b5 b8 W [] W)
      case first =>
        refine wp_region_held_drew (S := (fun w' : World => w'.cell? ⟨b8, 1, none⟩ = some (.slice (some ⟨g3, 0, none⟩) p.chs.length vq.a))) (by kernel_rfl) HS8.out (fun hHeld => ?_)
        refine wpAnyH_take (i := 0) (oi := { dst := some 187, op := Op.fieldAddr 31 (Operand.tmp 10) 1, type := 0, pos := "law.go:161", after := #[], guard := none }) (v := Value.pointer (some ⟨b8, 1, none⟩)) rfl (by kernel_rfl) (by kernel_rfl) (by kernel_rfl) (fun _ _ _ h => h) (Or.inl ⟨by rfl, ?hy⟩) (by assumption) ?_
        case hy => (intro wz hSw; (try dsimp only at hSw); go_simp)
        simp only [Act.put, List.setIfInBounds_toArray, List.set_cons_zero, List.set_cons_succ]
        refine wpAnyH_take (i := 1) (oi := { dst := some 188, op := Op.load 29 (Operand.tmp 187), type := 29, pos := "law.go:161", after := #[{ on := 0, ground := Ground.data }], guard := none }) (v := Value.slice (some ⟨g3, 0, none⟩) p.chs.length vq.a) rfl (by kernel_rfl) (by kernel_rfl) (by kernel_rfl) (fun _ _ _ h => h) (Or.inl ⟨by rfl, ?hy⟩) (by assumption) ?_
        case hy => (intro wz hSw; (try dsimp only at hSw); go_simp)
        simp only [Act.put, List.setIfInBounds_toArray, List.set_cons_zero, List.set_cons_succ]
        refine wpAnyH_take (i := 2) (oi := { dst := some 189, op := Op.move (Operand.tmp 16), type := 3, pos := "law.go:161", after := #[], guard := none }) (v := Value.int .i64 (i : Int)) rfl (by kernel_rfl) (by kernel_rfl) (by kernel_rfl) (fun _ _ _ h => h) (Or.inl ⟨by rfl, ?hy⟩) (by assumption) ?_
        case hy => (intro wz hSw; (try dsimp only at hSw); go_simp)
        simp only [Act.put, List.setIfInBounds_toArray, List.set_cons_zero, List.set_cons_succ]
        refine wpAnyH_take (i := 3) (oi := { dst := some 190, op := Op.fieldAddr 31 (Operand.tmp 10) 1, type := 0, pos := "law.go:161", after := #[], guard := none }) (v := Value.pointer (some ⟨b8, 1, none⟩)) rfl (by kernel_rfl) (by kernel_rfl) (by kernel_rfl) (fun _ _ _ h => h) (Or.inl ⟨by rfl, ?hy⟩) (by assumption) ?_
        case hy => (intro wz hSw; (try dsimp only at hSw); go_simp)
        simp only [Act.put, List.setIfInBounds_toArray, List.set_cons_zero, List.set_cons_succ]
        refine wpAnyH_take (i := 4) (oi := { dst := some 191, op := Op.load 29 (Operand.tmp 190), type := 29, pos := "law.go:161", after := #[{ on := 3, ground := Ground.data }], guard := none }) (v := Value.slice (some ⟨g3, 0, none⟩) p.chs.length vq.a) rfl (by kernel_rfl) (by kernel_rfl) (by kernel_rfl) (fun _ _ _ h => h) (Or.inl ⟨by rfl, ?hy⟩) (by assumption) ?_
        case hy => (intro wz hSw; (try dsimp only at hSw); go_simp)
        simp only [Act.put, List.setIfInBounds_toArray, List.set_cons_zero, List.set_cons_succ]
        refine wpAnyH_take (i := 5) (oi := { dst := some 192, op := Op.move (Operand.tmp 16), type := 3, pos := "law.go:161", after := #[], guard := none }) (v := Value.int .i64 (i : Int)) rfl (by kernel_rfl) (by kernel_rfl) (by kernel_rfl) (fun _ _ _ h => h) (Or.inl ⟨by rfl, ?hy⟩) (by assumption) ?_
        case hy => (intro wz hSw; (try dsimp only at hSw); go_simp)
        simp only [Act.put, List.setIfInBounds_toArray, List.set_cons_zero, List.set_cons_succ]
        refine wpAnyH_take (i := 6) (oi := { dst := some 193, op := Op.indexAddr 29 (Operand.tmp 191) (Operand.tmp 192), type := 0, pos := "law.go:161", after := #[{ on := 4, ground := Ground.data }, { on := 5, ground := Ground.data }], guard := none }) (v := Value.pointer (some ⟨g3, i, none⟩)) rfl (by kernel_rfl) (by kernel_rfl) (by kernel_rfl) (fun _ _ _ h => h) (Or.inl ⟨by rfl, ?hy⟩) (by assumption) ?_
        case hy => (intro wz hSw; (try dsimp only at hSw); go_simp)
        simp only [Act.put, List.setIfInBounds_toArray, List.set_cons_zero, List.set_cons_succ]
        refine wpAnyH_take (i := 8) (oi := { dst := some 195, op := Op.fieldAddr 31 (Operand.tmp 10) 1, type := 0, pos := "law.go:161", after := #[], guard := none }) (v := Value.pointer (some ⟨b8, 1, none⟩)) rfl (by kernel_rfl) (by kernel_rfl) (by kernel_rfl) (fun _ _ _ h => h) (Or.inl ⟨by rfl, ?hy⟩) (by assumption) ?_
        case hy => (intro wz hSw; (try dsimp only at hSw); go_simp)
        simp only [Act.put, List.setIfInBounds_toArray, List.set_cons_zero, List.set_cons_succ]
        refine wpAnyH_take (i := 9) (oi := { dst := some 196, op := Op.load 29 (Operand.tmp 195), type := 29, pos := "law.go:161", after := #[{ on := 8, ground := Ground.data }], guard := none }) (v := Value.slice (some ⟨g3, 0, none⟩) p.chs.length vq.a) rfl (by kernel_rfl) (by kernel_rfl) (by kernel_rfl) (fun _ _ _ h => h) (Or.inl ⟨by rfl, ?hy⟩) (by assumption) ?_
        case hy => (intro wz hSw; (try dsimp only at hSw); go_simp)
        simp only [Act.put, List.setIfInBounds_toArray, List.set_cons_zero, List.set_cons_succ]
        refine wpAnyH_take (i := 10) (oi := { dst := some 197, op := Op.move (Operand.tmp 16), type := 3, pos := "law.go:161", after := #[], guard := none }) (v := Value.int .i64 (i : Int)) rfl (by kernel_rfl) (by kernel_rfl) (by kernel_rfl) (fun _ _ _ h => h) (Or.inl ⟨by rfl, ?hy⟩) (by assumption) ?_
        case hy => (intro wz hSw; (try dsimp only at hSw); go_simp)
        simp only [Act.put, List.setIfInBounds_toArray, List.set_cons_zero, List.set_cons_succ]
        refine wpAnyH_take (i := 11) (oi := { dst := some 198, op := Op.indexAddr 29 (Operand.tmp 196) (Operand.tmp 197), type := 0, pos := "law.go:161", after := #[{ on := 9, ground := Ground.data }, { on := 10, ground := Ground.data }], guard := none }) (v := Value.pointer (some ⟨g3, i, none⟩)) rfl (by kernel_rfl) (by kernel_rfl) (by kernel_rfl) (fun _ _ _ h => h) (Or.inl ⟨by rfl, ?hy⟩) (by assumption) ?_
        case hy => (intro wz hSw; (try dsimp only at hSw); go_simp)
        simp only [Act.put, List.setIfInBounds_toArray, List.set_cons_zero, List.set_cons_succ]
        refine wpAnyH_ready (rs := [7, 12]) (by kernel_rfl) (by simp) ?_
        refine (AllReadyH.cons (o := { dst := some 194, op := Op.load 50 (Operand.tmp 193), type := 50, pos := "law.go:161", after := #[{ on := 6, ground := Ground.data }], guard := none }) rfl (fun K0 hK0 => ?_) (AllReadyH.cons (o := { dst := some 199, op := Op.load 50 (Operand.tmp 198), type := 50, pos := "law.go:161", after := #[{ on := 11, ground := Ground.data }], guard := none }) rfl (fun K0 hK0 => ?_) AllReadyH.nil))
        · go_simp
          refine hK0.out _ _ (HS8.out) (fun hHeld => ?_)
          clear hK0 K0
          try simp only [Act.put, List.setIfInBounds_toArray, List.set_cons_zero, List.set_cons_succ]
          refine wpAnyH_ready (rs := [12]) (by kernel_rfl) (by simp) ?_
          refine (AllReadyH.cons (o := { dst := some 199, op := Op.load 50 (Operand.tmp 198), type := 50, pos := "law.go:161", after := #[{ on := 11, ground := Ground.data }], guard := none }) rfl (fun K0 hK0 => ?_) AllReadyH.nil)
          go_simp
          refine hK0.out _ _ (HS8.out) (fun hHeld => ?_)
          clear hK0 K0
          try simp only [Act.put, List.setIfInBounds_toArray, List.set_cons_zero, List.set_cons_succ]
          refine wpAnyH_take (i := 13) (oi := { dst := some 200, op := Op.indexAddr 50 (Operand.tmp 199) (Operand.const (Value.int IntKind.i64 0)), type := 0, pos := "law.go:161", after := #[{ on := 12, ground := Ground.data }], guard := none }) (v := Value.pointer (some ⟨gB, 0, none⟩)) rfl (by kernel_rfl) (by kernel_rfl) (by kernel_rfl) (fun _ _ _ h => h) (Or.inl ⟨by rfl, ?hy⟩) (by assumption) ?_
          case hy => (intro wz hSw; (try dsimp only at hSw); go_simp)
          simp only [Act.put, List.setIfInBounds_toArray, List.set_cons_zero, List.set_cons_succ]
          refine wpAnyH_ready (rs := [14]) (by kernel_rfl) (by simp) ?_
          refine (AllReadyH.cons (o := { dst := some 201, op := Op.load 49 (Operand.tmp 200), type := 49, pos := "law.go:161", after := #[{ on := 13, ground := Ground.data }], guard := none }) rfl (fun K0 hK0 => ?_) AllReadyH.nil)
          go_simp
          refine hK0.out _ _ (HS8.out) (fun hHeld => ?_)
          clear hK0 K0
          try simp only [Act.put, List.setIfInBounds_toArray, List.set_cons_zero, List.set_cons_succ]
          refine wpAnyH_ready (rs := [15]) (by kernel_rfl) (by simp) ?_
          refine (AllReadyH.cons (o := { dst := some 202, op := Op.buildSlice 50 1 #[(0, Operand.tmp 201)], type := 50, pos := "law.go:161", after := #[{ on := 14, ground := Ground.data }], guard := none }) rfl (fun K0 hK0 => ?_) AllReadyH.nil)
          go_simp
          refine hK0.out _ _ (HS8a.out) (fun hHeld => ?_)
          clear hK0 K0
          try simp only [Act.put, List.setIfInBounds_toArray, List.set_cons_zero, List.set_cons_succ]
          refine wpAnyH_ready (rs := [16]) (by kernel_rfl) (by simp) ?_
          refine (AllReadyH.cons (o := { dst := some 203, op := Op.call { callee := Callee.builtin Builtin.append, args := #[Operand.tmp 194, Operand.tmp 202], argTypes := #[50, 50] }, type := 50, pos := "law.go:161", after := #[{ on := 7, ground := Ground.data }, { on := 15, ground := Ground.data }], guard := none }) rfl (fun K0 hK0 => ?_) AllReadyH.nil)
          refine step_append_lies ((W30.alloc (.cells #[.string act0, .slice A0 M0 cap0] 49)).drew) (by rfl) (.tmp 194) (.tmp 202) 50 (by rfl) l3 49 i1 (.agg #[.string ⟨#[]⟩, .slice none 0 0]) 2 40 Tryd.underlying50 HJ.out HYa.out HYb.out HYc.out rfl (by decide) (.slice (some ⟨gB, 0, none⟩) q cap3) q rc3 (by simp [Act.eval]) HOWN.out ⟨W30.heap.size, 0, none⟩ 1 1 [.string act0, .slice A0 M0 cap0] (by simp [Act.eval]) rfl (lies_at2 HNB2.out (by simp)) (two_cells rfl rfl) (by decide) (by unfold maxLen; omega) (by omega) (by simp; omega) (W30.heap.size + 1) (by simp) ?_
          intro g5 cap5 w5 ho5 hgrow hat hlt
          obtain ⟨hf5, hc5, q5⟩ := HFZ.out _ hgrow
          refine hK0.out _ _ (q5) (fun hHeld => ?_)
          clear hK0 K0
          try simp only [Act.put, List.setIfInBounds_toArray, List.set_cons_zero, List.set_cons_succ]
          refine wpAnyH_take (i := 17) (oi := { dst := some 204, op := Op.indexAddr 29 (Operand.tmp 188) (Operand.tmp 189), type := 0, pos := "law.go:161", after := #[{ on := 1, ground := Ground.data }, { on := 2, ground := Ground.data }, { on := 0, ground := Ground.phase }, { on := 1, ground := Ground.phase }, { on := 2, ground := Ground.phase }, { on := 3, ground := Ground.phase }, { on := 4, ground := Ground.phase }, { on := 5, ground := Ground.phase }, { on := 6, ground := Ground.phase }, { on := 7, ground := Ground.phase }, { on := 8, ground := Ground.phase }, { on := 9, ground := Ground.phase }, { on := 10, ground := Ground.phase }, { on := 11, ground := Ground.phase }, { on := 12, ground := Ground.phase }, { on := 13, ground := Ground.phase }, { on := 14, ground := Ground.phase }, { on := 15, ground := Ground.phase }, { on := 16, ground := Ground.phase }], guard := none }) (v := Value.pointer (some ⟨g3, i, none⟩)) rfl (by kernel_rfl) (by kernel_rfl) (by kernel_rfl) (fun _ _ _ h => h) (Or.inl ⟨by rfl, ?hy⟩) (by assumption) ?_
          case hy => (intro wz hSw; (try dsimp only at hSw); go_simp)
          simp only [Act.put, List.setIfInBounds_toArray, List.set_cons_zero, List.set_cons_succ]
          refine wpAnyH_ready (rs := [18]) (by kernel_rfl) (by simp) ?_
          refine (AllReadyH.cons (o := { dst := none, op := Op.store 50 (Operand.tmp 204) (Operand.tmp 203), type := 0, pos := "law.go:161", after := #[{ on := 17, ground := Ground.data }, { on := 16, ground := Ground.data }, { on := 16, ground := Ground.chain }, { on := 0, ground := Ground.phase }, { on := 1, ground := Ground.phase }, { on := 2, ground := Ground.phase }, { on := 3, ground := Ground.phase }, { on := 4, ground := Ground.phase }, { on := 5, ground := Ground.phase }, { on := 6, ground := Ground.phase }, { on := 7, ground := Ground.phase }, { on := 8, ground := Ground.phase }, { on := 9, ground := Ground.phase }, { on := 10, ground := Ground.phase }, { on := 11, ground := Ground.phase }, { on := 12, ground := Ground.phase }, { on := 13, ground := Ground.phase }, { on := 14, ground := Ground.phase }, { on := 15, ground := Ground.phase }, { on := 16, ground := Ground.phase }], guard := none }) rfl (fun K0 hK0 => ?_) AllReadyH.nil)
          go_simp
          refine hK0.out _ _ ((World.cell?_setCell_far _ ⟨g3, i, none⟩ _ _ hgb).trans q5) (fun hHeld => ?_)
          clear hK0 K0
          try simp only [Act.put, List.setIfInBounds_toArray, List.set_cons_zero, List.set_cons_succ]
          refine wpAnyH_done (by kernel_rfl) ?_ _
          have HGF := Lib.hid (HGM.out _ _ _ hgrow ho5)
          clear ho5 hgrow hat hlt hf5 hc5 q5
          go_wp2
          go_meet
          exact HGF.out
        · go_simp
          refine hK0.out _ _ (HS8.out) (fun hHeld => ?_)
          clear hK0 K0
          try simp only [Act.put, List.setIfInBounds_toArray, List.set_cons_zero, List.set_cons_succ]
          refine wpAnyH_take (i := 13) (oi := { dst := some 200, op := Op.indexAddr 50 (Operand.tmp 199) (Operand.const (Value.int IntKind.i64 0)), type := 0, pos := "law.go:161", after := #[{ on := 12, ground := Ground.data }], guard := none }) (v := Value.pointer (some ⟨gB, 0, none⟩)) rfl (by kernel_rfl) (by kernel_rfl) (by kernel_rfl) (fun _ _ _ h => h) (Or.inl ⟨by rfl, ?hy⟩) (by assumption) ?_
          case hy => (intro wz hSw; (try dsimp only at hSw); go_simp)
          simp only [Act.put, List.setIfInBounds_toArray, List.set_cons_zero, List.set_cons_succ]
          refine wpAnyH_ready (rs := [7, 14]) (by kernel_rfl) (by simp) ?_
          refine (AllReadyH.cons (o := { dst := some 194, op := Op.load 50 (Operand.tmp 193), type := 50, pos := "law.go:161", after := #[{ on := 6, ground := Ground.data }], guard := none }) rfl (fun K0 hK0 => ?_) (AllReadyH.cons (o := { dst := some 201, op := Op.load 49 (Operand.tmp 200), type := 49, pos := "law.go:161", after := #[{ on := 13, ground := Ground.data }], guard := none }) rfl (fun K0 hK0 => ?_) AllReadyH.nil))
          · go_simp
            refine hK0.out _ _ (HS8.out) (fun hHeld => ?_)
            clear hK0 K0
            try simp only [Act.put, List.setIfInBounds_toArray, List.set_cons_zero, List.set_cons_succ]
            refine wpAnyH_ready (rs := [14]) (by kernel_rfl) (by simp) ?_
            refine (AllReadyH.cons (o := { dst := some 201, op := Op.load 49 (Operand.tmp 200), type := 49, pos := "law.go:161", after := #[{ on := 13, ground := Ground.data }], guard := none }) rfl (fun K0 hK0 => ?_) AllReadyH.nil)
            go_simp
            refine hK0.out _ _ (HS8.out) (fun hHeld => ?_)
            clear hK0 K0
            try simp only [Act.put, List.setIfInBounds_toArray, List.set_cons_zero, List.set_cons_succ]
            refine wpAnyH_ready (rs := [15]) (by kernel_rfl) (by simp) ?_
            refine (AllReadyH.cons (o := { dst := some 202, op := Op.buildSlice 50 1 #[(0, Operand.tmp 201)], type := 50, pos := "law.go:161", after := #[{ on := 14, ground := Ground.data }], guard := none }) rfl (fun K0 hK0 => ?_) AllReadyH.nil)
            go_simp
            refine hK0.out _ _ (HS8a.out) (fun hHeld => ?_)
            clear hK0 K0
            try simp only [Act.put, List.setIfInBounds_toArray, List.set_cons_zero, List.set_cons_succ]
            refine wpAnyH_ready (rs := [16]) (by kernel_rfl) (by simp) ?_
            refine (AllReadyH.cons (o := { dst := some 203, op := Op.call { callee := Callee.builtin Builtin.append, args := #[Operand.tmp 194, Operand.tmp 202], argTypes := #[50, 50] }, type := 50, pos := "law.go:161", after := #[{ on := 7, ground := Ground.data }, { on := 15, ground := Ground.data }], guard := none }) rfl (fun K0 hK0 => ?_) AllReadyH.nil)
            refine step_append_lies ((W30.alloc (.cells #[.string act0, .slice A0 M0 cap0] 49)).drew) (by rfl) (.tmp 194) (.tmp 202) 50 (by rfl) l3 49 i1 (.agg #[.string ⟨#[]⟩, .slice none 0 0]) 2 40 Tryd.underlying50 HJ.out HYa.out HYb.out HYc.out rfl (by decide) (.slice (some ⟨gB, 0, none⟩) q cap3) q rc3 (by simp [Act.eval]) HOWN.out ⟨W30.heap.size, 0, none⟩ 1 1 [.string act0, .slice A0 M0 cap0] (by simp [Act.eval]) rfl (lies_at2 HNB2.out (by simp)) (two_cells rfl rfl) (by decide) (by unfold maxLen; omega) (by omega) (by simp; omega) (W30.heap.size + 1) (by simp) ?_
            intro g5 cap5 w5 ho5 hgrow hat hlt
            obtain ⟨hf5, hc5, q5⟩ := HFZ.out _ hgrow
            refine hK0.out _ _ (q5) (fun hHeld => ?_)
            clear hK0 K0
            try simp only [Act.put, List.setIfInBounds_toArray, List.set_cons_zero, List.set_cons_succ]
            refine wpAnyH_take (i := 17) (oi := { dst := some 204, op := Op.indexAddr 29 (Operand.tmp 188) (Operand.tmp 189), type := 0, pos := "law.go:161", after := #[{ on := 1, ground := Ground.data }, { on := 2, ground := Ground.data }, { on := 0, ground := Ground.phase }, { on := 1, ground := Ground.phase }, { on := 2, ground := Ground.phase }, { on := 3, ground := Ground.phase }, { on := 4, ground := Ground.phase }, { on := 5, ground := Ground.phase }, { on := 6, ground := Ground.phase }, { on := 7, ground := Ground.phase }, { on := 8, ground := Ground.phase }, { on := 9, ground := Ground.phase }, { on := 10, ground := Ground.phase }, { on := 11, ground := Ground.phase }, { on := 12, ground := Ground.phase }, { on := 13, ground := Ground.phase }, { on := 14, ground := Ground.phase }, { on := 15, ground := Ground.phase }, { on := 16, ground := Ground.phase }], guard := none }) (v := Value.pointer (some ⟨g3, i, none⟩)) rfl (by kernel_rfl) (by kernel_rfl) (by kernel_rfl) (fun _ _ _ h => h) (Or.inl ⟨by rfl, ?hy⟩) (by assumption) ?_
            case hy => (intro wz hSw; (try dsimp only at hSw); go_simp)
            simp only [Act.put, List.setIfInBounds_toArray, List.set_cons_zero, List.set_cons_succ]
            refine wpAnyH_ready (rs := [18]) (by kernel_rfl) (by simp) ?_
            refine (AllReadyH.cons (o := { dst := none, op := Op.store 50 (Operand.tmp 204) (Operand.tmp 203), type := 0, pos := "law.go:161", after := #[{ on := 17, ground := Ground.data }, { on := 16, ground := Ground.data }, { on := 16, ground := Ground.chain }, { on := 0, ground := Ground.phase }, { on := 1, ground := Ground.phase }, { on := 2, ground := Ground.phase }, { on := 3, ground := Ground.phase }, { on := 4, ground := Ground.phase }, { on := 5, ground := Ground.phase }, { on := 6, ground := Ground.phase }, { on := 7, ground := Ground.phase }, { on := 8, ground := Ground.phase }, { on := 9, ground := Ground.phase }, { on := 10, ground := Ground.phase }, { on := 11, ground := Ground.phase }, { on := 12, ground := Ground.phase }, { on := 13, ground := Ground.phase }, { on := 14, ground := Ground.phase }, { on := 15, ground := Ground.phase }, { on := 16, ground := Ground.phase }], guard := none }) rfl (fun K0 hK0 => ?_) AllReadyH.nil)
            go_simp
            refine hK0.out _ _ ((World.cell?_setCell_far _ ⟨g3, i, none⟩ _ _ hgb).trans q5) (fun hHeld => ?_)
            clear hK0 K0
            try simp only [Act.put, List.setIfInBounds_toArray, List.set_cons_zero, List.set_cons_succ]
            refine wpAnyH_done (by kernel_rfl) ?_ _
            have HGF := Lib.hid (HGM.out _ _ _ hgrow ho5)
            clear ho5 hgrow hat hlt hf5 hc5 q5
            go_wp2
            go_meet
            exact HGF.out
          · go_simp
            refine hK0.out _ _ (HS8.out) (fun hHeld => ?_)
            clear hK0 K0
            try simp only [Act.put, List.setIfInBounds_toArray, List.set_cons_zero, List.set_cons_succ]
            refine wpAnyH_ready (rs := [7, 15]) (by kernel_rfl) (by simp) ?_
            refine (AllReadyH.cons (o := { dst := some 194, op := Op.load 50 (Operand.tmp 193), type := 50, pos := "law.go:161", after := #[{ on := 6, ground := Ground.data }], guard := none }) rfl (fun K0 hK0 => ?_) (AllReadyH.cons (o := { dst := some 202, op := Op.buildSlice 50 1 #[(0, Operand.tmp 201)], type := 50, pos := "law.go:161", after := #[{ on := 14, ground := Ground.data }], guard := none }) rfl (fun K0 hK0 => ?_) AllReadyH.nil))
            · go_simp
              refine hK0.out _ _ (HS8.out) (fun hHeld => ?_)
              clear hK0 K0
              try simp only [Act.put, List.setIfInBounds_toArray, List.set_cons_zero, List.set_cons_succ]
              refine wpAnyH_ready (rs := [15]) (by kernel_rfl) (by simp) ?_
              refine (AllReadyH.cons (o := { dst := some 202, op := Op.buildSlice 50 1 #[(0, Operand.tmp 201)], type := 50, pos := "law.go:161", after := #[{ on := 14, ground := Ground.data }], guard := none }) rfl (fun K0 hK0 => ?_) AllReadyH.nil)
              go_simp
              refine hK0.out _ _ (HS8a.out) (fun hHeld => ?_)
              clear hK0 K0
              try simp only [Act.put, List.setIfInBounds_toArray, List.set_cons_zero, List.set_cons_succ]
              refine wpAnyH_ready (rs := [16]) (by kernel_rfl) (by simp) ?_
              refine (AllReadyH.cons (o := { dst := some 203, op := Op.call { callee := Callee.builtin Builtin.append, args := #[Operand.tmp 194, Operand.tmp 202], argTypes := #[50, 50] }, type := 50, pos := "law.go:161", after := #[{ on := 7, ground := Ground.data }, { on := 15, ground := Ground.data }], guard := none }) rfl (fun K0 hK0 => ?_) AllReadyH.nil)
              refine step_append_lies ((W30.alloc (.cells #[.string act0, .slice A0 M0 cap0] 49)).drew) (by rfl) (.tmp 194) (.tmp 202) 50 (by rfl) l3 49 i1 (.agg #[.string ⟨#[]⟩, .slice none 0 0]) 2 40 Tryd.underlying50 HJ.out HYa.out HYb.out HYc.out rfl (by decide) (.slice (some ⟨gB, 0, none⟩) q cap3) q rc3 (by simp [Act.eval]) HOWN.out ⟨W30.heap.size, 0, none⟩ 1 1 [.string act0, .slice A0 M0 cap0] (by simp [Act.eval]) rfl (lies_at2 HNB2.out (by simp)) (two_cells rfl rfl) (by decide) (by unfold maxLen; omega) (by omega) (by simp; omega) (W30.heap.size + 1) (by simp) ?_
              intro g5 cap5 w5 ho5 hgrow hat hlt
              obtain ⟨hf5, hc5, q5⟩ := HFZ.out _ hgrow
              refine hK0.out _ _ (q5) (fun hHeld => ?_)
              clear hK0 K0
              try simp only [Act.put, List.setIfInBounds_toArray, List.set_cons_zero, List.set_cons_succ]
              refine wpAnyH_take (i := 17) (oi := { dst := some 204, op := Op.indexAddr 29 (Operand.tmp 188) (Operand.tmp 189), type := 0, pos := "law.go:161", after := #[{ on := 1, ground := Ground.data }, { on := 2, ground := Ground.data }, { on := 0, ground := Ground.phase }, { on := 1, ground := Ground.phase }, { on := 2, ground := Ground.phase }, { on := 3, ground := Ground.phase }, { on := 4, ground := Ground.phase }, { on := 5, ground := Ground.phase }, { on := 6, ground := Ground.phase }, { on := 7, ground := Ground.phase }, { on := 8, ground := Ground.phase }, { on := 9, ground := Ground.phase }, { on := 10, ground := Ground.phase }, { on := 11, ground := Ground.phase }, { on := 12, ground := Ground.phase }, { on := 13, ground := Ground.phase }, { on := 14, ground := Ground.phase }, { on := 15, ground := Ground.phase }, { on := 16, ground := Ground.phase }], guard := none }) (v := Value.pointer (some ⟨g3, i, none⟩)) rfl (by kernel_rfl) (by kernel_rfl) (by kernel_rfl) (fun _ _ _ h => h) (Or.inl ⟨by rfl, ?hy⟩) (by assumption) ?_
              case hy => (intro wz hSw; (try dsimp only at hSw); go_simp)
              simp only [Act.put, List.setIfInBounds_toArray, List.set_cons_zero, List.set_cons_succ]
              refine wpAnyH_ready (rs := [18]) (by kernel_rfl) (by simp) ?_
              refine (AllReadyH.cons (o := { dst := none, op := Op.store 50 (Operand.tmp 204) (Operand.tmp 203), type := 0, pos := "law.go:161", after := #[{ on := 17, ground := Ground.data }, { on := 16, ground := Ground.data }, { on := 16, ground := Ground.chain }, { on := 0, ground := Ground.phase }, { on := 1, ground := Ground.phase }, { on := 2, ground := Ground.phase }, { on := 3, ground := Ground.phase }, { on := 4, ground := Ground.phase }, { on := 5, ground := Ground.phase }, { on := 6, ground := Ground.phase }, { on := 7, ground := Ground.phase }, { on := 8, ground := Ground.phase }, { on := 9, ground := Ground.phase }, { on := 10, ground := Ground.phase }, { on := 11, ground := Ground.phase }, { on := 12, ground := Ground.phase }, { on := 13, ground := Ground.phase }, { on := 14, ground := Ground.phase }, { on := 15, ground := Ground.phase }, { on := 16, ground := Ground.phase }], guard := none }) rfl (fun K0 hK0 => ?_) AllReadyH.nil)
              go_simp
              refine hK0.out _ _ ((World.cell?_setCell_far _ ⟨g3, i, none⟩ _ _ hgb).trans q5) (fun hHeld => ?_)
              clear hK0 K0
              try simp only [Act.put, List.setIfInBounds_toArray, List.set_cons_zero, List.set_cons_succ]
              refine wpAnyH_done (by kernel_rfl) ?_ _
              have HGF := Lib.hid (HGM.out _ _ _ hgrow ho5)
              clear ho5 hgrow hat hlt hf5 hc5 q5
              go_wp2
              go_meet
              exact HGF.out
            · go_simp
              refine hK0.out _ _ (HS8a.out) (fun hHeld => ?_)
              clear hK0 K0
              try simp only [Act.put, List.setIfInBounds_toArray, List.set_cons_zero, List.set_cons_succ]
              refine wpAnyH_ready (rs := [7]) (by kernel_rfl) (by simp) ?_
              refine (AllReadyH.cons (o := { dst := some 194, op := Op.load 50 (Operand.tmp 193), type := 50, pos := "law.go:161", after := #[{ on := 6, ground := Ground.data }], guard := none }) rfl (fun K0 hK0 => ?_) AllReadyH.nil)
              go_simp
              refine hK0.out _ _ (HS8a.out) (fun hHeld => ?_)
              clear hK0 K0
              try simp only [Act.put, List.setIfInBounds_toArray, List.set_cons_zero, List.set_cons_succ]
              refine wpAnyH_ready (rs := [16]) (by kernel_rfl) (by simp) ?_
              refine (AllReadyH.cons (o := { dst := some 203, op := Op.call { callee := Callee.builtin Builtin.append, args := #[Operand.tmp 194, Operand.tmp 202], argTypes := #[50, 50] }, type := 50, pos := "law.go:161", after := #[{ on := 7, ground := Ground.data }, { on := 15, ground := Ground.data }], guard := none }) rfl (fun K0 hK0 => ?_) AllReadyH.nil)
              refine step_append_lies ((W30.alloc (.cells #[.string act0, .slice A0 M0 cap0] 49)).drew) (by rfl) (.tmp 194) (.tmp 202) 50 (by rfl) l3 49 i1 (.agg #[.string ⟨#[]⟩, .slice none 0 0]) 2 40 Tryd.underlying50 HJ.out HYa.out HYb.out HYc.out rfl (by decide) (.slice (some ⟨gB, 0, none⟩) q cap3) q rc3 (by simp [Act.eval]) HOWN.out ⟨W30.heap.size, 0, none⟩ 1 1 [.string act0, .slice A0 M0 cap0] (by simp [Act.eval]) rfl (lies_at2 HNB2.out (by simp)) (two_cells rfl rfl) (by decide) (by unfold maxLen; omega) (by omega) (by simp; omega) (W30.heap.size + 1) (by simp) ?_
              intro g5 cap5 w5 ho5 hgrow hat hlt
              obtain ⟨hf5, hc5, q5⟩ := HFZ.out _ hgrow
              refine hK0.out _ _ (q5) (fun hHeld => ?_)
              clear hK0 K0
              try simp only [Act.put, List.setIfInBounds_toArray, List.set_cons_zero, List.set_cons_succ]
              refine wpAnyH_take (i := 17) (oi := { dst := some 204, op := Op.indexAddr 29 (Operand.tmp 188) (Operand.tmp 189), type := 0, pos := "law.go:161", after := #[{ on := 1, ground := Ground.data }, { on := 2, ground := Ground.data }, { on := 0, ground := Ground.phase }, { on := 1, ground := Ground.phase }, { on := 2, ground := Ground.phase }, { on := 3, ground := Ground.phase }, { on := 4, ground := Ground.phase }, { on := 5, ground := Ground.phase }, { on := 6, ground := Ground.phase }, { on := 7, ground := Ground.phase }, { on := 8, ground := Ground.phase }, { on := 9, ground := Ground.phase }, { on := 10, ground := Ground.phase }, { on := 11, ground := Ground.phase }, { on := 12, ground := Ground.phase }, { on := 13, ground := Ground.phase }, { on := 14, ground := Ground.phase }, { on := 15, ground := Ground.phase }, { on := 16, ground := Ground.phase }], guard := none }) (v := Value.pointer (some ⟨g3, i, none⟩)) rfl (by kernel_rfl) (by kernel_rfl) (by kernel_rfl) (fun _ _ _ h => h) (Or.inl ⟨by rfl, ?hy⟩) (by assumption) ?_
              case hy => (intro wz hSw; (try dsimp only at hSw); go_simp)
              simp only [Act.put, List.setIfInBounds_toArray, List.set_cons_zero, List.set_cons_succ]
              refine wpAnyH_ready (rs := [18]) (by kernel_rfl) (by simp) ?_
              refine (AllReadyH.cons (o := { dst := none, op := Op.store 50 (Operand.tmp 204) (Operand.tmp 203), type := 0, pos := "law.go:161", after := #[{ on := 17, ground := Ground.data }, { on := 16, ground := Ground.data }, { on := 16, ground := Ground.chain }, { on := 0, ground := Ground.phase }, { on := 1, ground := Ground.phase }, { on := 2, ground := Ground.phase }, { on := 3, ground := Ground.phase }, { on := 4, ground := Ground.phase }, { on := 5, ground := Ground.phase }, { on := 6, ground := Ground.phase }, { on := 7, ground := Ground.phase }, { on := 8, ground := Ground.phase }, { on := 9, ground := Ground.phase }, { on := 10, ground := Ground.phase }, { on := 11, ground := Ground.phase }, { on := 12, ground := Ground.phase }, { on := 13, ground := Ground.phase }, { on := 14, ground := Ground.phase }, { on := 15, ground := Ground.phase }, { on := 16, ground := Ground.phase }], guard := none }) rfl (fun K0 hK0 => ?_) AllReadyH.nil)
              go_simp
              refine hK0.out _ _ ((World.cell?_setCell_far _ ⟨g3, i, none⟩ _ _ hgb).trans q5) (fun hHeld => ?_)
              clear hK0 K0
              try simp only [Act.put, List.setIfInBounds_toArray, List.set_cons_zero, List.set_cons_succ]
              refine wpAnyH_done (by kernel_rfl) ?_ _
              have HGF := Lib.hid (HGM.out _ _ _ hgrow ho5)
              clear ho5 hgrow hat hlt hf5 hc5 q5
              go_wp2
              go_meet
              exact HGF.out
      case rest =>
        have HY3 := Lib.hid hcut
        clear hcut y1 n0 n1 HGM HFZ HS8 HS8a HNB2 HOWN HMORE
        obtain ⟨x0, x1, x2, x3⟩ := HY3.out.tl.bx.cells4
        obtain ⟨y0, y1, y2, y3⟩ := HY3.out.bY.cells4
        go_wp2_with fail
        with_reducible refine (HY3.out.aXY HS.out HLK3.out HNA3.out).mono ?_
        rintro e W40 ⟨rfl, lk⟩
        have HEND := Lib.hid lk.tl.b
        clear lk x0 x1 x2 x3 y0 y1 y2 y3
        go_wp2
        go_ret
        exact ⟨rfl, HEND.out⟩
end Go.Proofs.YtkgjpimapfmeoaaDoor
