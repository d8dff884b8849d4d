/-
  The law MdpGrows.
-/
import Derived.Test.YtkgjpimapfmeoaaDoorMo
import Derived.BigRegion
namespace Go.Proofs.YtkgjpimapfmeoaaDoor
open Go.RowKit

/-- What the law knows of memory while it compares. -/
structure GrM (p : PrO) (v vx vy : PV) (k : Nat) (t : Int) (w0 : World) (b0 b5 b8 : Nat) (L : List (Option Addr × List Int)) (w : World) : Prop where
  tl : TlM p v vx [] w0 b0 b5 L w
  bY : Bx w b8 31 (vy.l p)
  y : PrM w vy (growO p k t)
section
variable {p : PrO} {v vx vy : PV} {k : Nat} {t : Int} {w0 : World} {b0 b5 b8 : Nat} {L : List (Option Addr × List Int)} {w w' : World}
theorem grow_l (vy : PV) (p : PrO) (k : Nat) (t : Int) : vy.l (growO p k t) = vy.l p := by simp [PV.l, growO, rowO]
theorem GrM.below (h : GrM p v vx vy k t w0 b0 b5 b8 L w) (hb : Below w.heap.size w w') : GrM p v vx vy k t w0 b0 b5 b8 L w' := ⟨h.tl.below hb, h.bY.below hb, h.y.below hb⟩
theorem GrM.drew (h : GrM p v vx vy k t w0 b0 b5 b8 L w) : GrM p v vx vy k t w0 b0 b5 b8 L w.drew := h.below ((Below.refl _ _).drew)
theorem GrM.more (h : GrM p v vx vy k t w0 b0 b5 b8 L w) {A : Option Addr} {l : List Int} (hl : ISl w A l) : GrM p v vx vy k t w0 b0 b5 b8 ((A, l) :: L) w := ⟨h.tl.more hl, h.bY, h.y⟩
theorem GrM.reachX (h : GrM p v vx vy k t w0 b0 b5 b8 L w) (hs : Sml p) : Calls Tryd.prog 15 #[.agg #[.int .i64 p.init, .slice vx.A p.chs.length vx.a, .slice vx.B p.nms.length vx.b, .slice vx.C p.hds.length vx.c]] w fun e w' => ∃ A cap, e = .returned (.slice A (reachO p).length cap) ∧ GrM p v vx vy k t w0 b0 b5 b8 ((A, reachO p) :: L) w' :=
  (reach_any w h.tl.x hs).mono fun _ _ ⟨_, h1, h2, h3⟩ => by
    obtain ⟨A, cap, rfl, _, h4⟩ := own_isl h2
    exact ⟨A, cap, h1, (h.below h3).more h4⟩
theorem GrM.reachY (h : GrM p v vx vy k t w0 b0 b5 b8 L w) (hs : Sml (growO p k t)) : Calls Tryd.prog 15 #[.agg #[.int .i64 p.init, .slice vy.A p.chs.length vy.a, .slice vy.B p.nms.length vy.b, .slice vy.C p.hds.length vy.c]] w fun e w' => ∃ A cap, e = .returned (.slice A (reachO (growO p k t)).length cap) ∧ GrM p v vx vy k t w0 b0 b5 b8 ((A, reachO (growO p k t)) :: L) w' := by
  have hc := reach_any w h.y hs
  rw [grow_l] at hc
  exact hc.mono fun _ _ ⟨_, h1, h2, h3⟩ => by
    obtain ⟨A, cap, rfl, _, h4⟩ := own_isl h2
    exact ⟨A, cap, h1, (h.below h3).more h4⟩
theorem GrM.check (h : GrM p v vx vy k t w0 b0 b5 b8 L w) (hs : Sml (growO p k t)) (hr : (growO p k t).right) : Calls Tryd.prog 9 #[.agg #[.int .i64 p.init, .slice vy.A p.chs.length vy.a, .slice vy.B p.nms.length vy.b, .slice vy.C p.hds.length vy.c]] w fun e w' => e = .returned .nilIface ∧ GrM p v vx vy k t w0 b0 b5 b8 L w' := by
  have hc := check_any w h.y hs
  rw [grow_l] at hc
  exact hc.mono fun _ _ ⟨h1, h2⟩ => by
    rw [if_pos hr] at h1
    exact ⟨h1, h.below h2⟩
theorem GrM.letters (h : GrM p v vx vy k t w0 b0 b5 b8 L w) (hs : Sml p) {q : Nat} {a b : ByteArray} {l : List Int} (hb : Bx w q 9 [.string a, .string b]) (he : letE p [a, b] = 0) (hl : letO p [a, b] = l) : Calls Tryd.prog 10 #[.agg #[.int .i64 p.init, .slice vx.A p.chs.length vx.a, .slice vx.B p.nms.length vx.b, .slice vx.C p.hds.length vx.c], .slice (some ⟨q, 0, none⟩) 2 2] w fun e w' => ∃ A cap, e = .returned (.tuple #[.slice A l.length cap, .nilIface]) ∧ GrM p v vx vy k t w0 b0 b5 b8 ((A, l) :: L) w' := by
  subst hl
  have hss : SSl w (some ⟨q, 0, none⟩) [a, b] := fun i hi => ⟨q, 0, rfl, by
    rw [Nat.zero_add]
    match i, hi with
    | 0, _ => exact hb.cell 0
    | 1, _ => exact hb.cell 1⟩
  exact (letters_any (cl := 2) w h.tl.x hs hss (by simp)).mono fun _ _ ⟨A, cap, h1, h2, h3⟩ => ⟨A, cap, by rw [h1, he]; rfl, (h.below h3).more h2⟩
end
theorem lies_at2 {w : World} {q q' : Nat} {t : TypeId} {cs : List Value} (h : Bx w q t cs) (e : q = q') : ∀ (j : Nat) (u : Value), cs[j]? = some u → w.cell? ((⟨q', 0, none⟩ : Addr).add j) = some u := by subst e; exact lies_at h
open Classical in
set_option maxHeartbeats 16000000 in
set_option maxRecDepth 100000 in
theorem grows_all {p : PrO} {v : PV} {A : Option Addr} {s T cl : Nat} (w : World) (hG : Glob w) (hp : PrM w v p) (hs : s ≤ 255) (ht : 0 < T → ∃ g o x, A = some ⟨g, o, none⟩ ∧ w.cell? ⟨g, o, none⟩ = some (.int .u8 ((x : Nat) : Int)) ∧ x ≤ 255) : Calls Tryd.prog 5 #[.agg (v.l p).toArray, .int .u8 (s : Int), .slice A T cl] w (LawF w) := by
  have HG := Lib.hid hG
  have HP := Lib.hid hp
  have HT := Lib.hid ht
  have HW := Lib.hid (below_alloc w (.cells (v.l p).toArray 26))
  have HX := Lib.hid (Bx.new w 26 (v.l p))
  change Hid (Below w.heap.size w (w.alloc (.cells #[.int .i64 p.init, .slice v.A p.chs.length v.a, .slice v.B p.nms.length v.b, .slice v.C p.hds.length v.c] 26))) at HW
  change Hid (Bx (w.alloc (.cells #[.int .i64 p.init, .slice v.A p.chs.length v.a, .slice v.B p.nms.length v.b, .slice v.C p.hds.length v.c] 26)) w.heap.size 26 [.int .i64 p.init, .slice v.A p.chs.length v.a, .slice v.B p.nms.length v.b, .slice v.C p.hds.length v.c]) at HX
  have HAL := Lib.hid (alive_yes (w.alloc (.cells #[.int .i64 p.init, .slice v.A p.chs.length v.a, .slice v.B p.nms.length v.b, .slice v.C p.hds.length v.c] 26)) (HG.out.below HW.out))
  have HFAR := Lib.hid (fun (W : World) (hb : Below w.heap.size w W) => far_any W (hp.below hb))
  change Hid (∀ (W : World) (hb : Below w.heap.size w W), Calls Tryd.prog 7 #[.agg #[.int .i64 p.init, .slice v.A p.chs.length v.a, .slice v.B p.nms.length v.b, .slice v.C p.hds.length v.c]] W (BoolP (decide (farO p)) W)) at HFAR
  show Calls Tryd.prog 5 #[.agg #[.int .i64 p.init, .slice v.A p.chs.length v.a, .slice v.B p.nms.length v.b, .slice v.C p.hds.length v.c], .int .u8 (s : Int), .slice A T cl] w _
  clear hG hp ht
  by_cases hf : farO p
  · have HF := Lib.hid (decide_eq_true hf)
    clear hf
    go_enter Tryd.func5, Tryd.ntmps5
    go_wp2_with fail
    with_reducible refine (HAL.out).mono ?_
    rintro e w1 ⟨rfl, hb1⟩
    have HB1 := Lib.hid (below_t HW.out hb1)
    obtain ⟨x0, x1, x2, x3⟩ := (HX.out.below hb1).cells4
    clear hb1
    go_wp2_with fail
    with_reducible refine (HFAR.out _ HB1.out).mono ?_
    rintro e w2 ⟨rfl, hb2⟩
    have HB2 := Lib.hid (below_t HB1.out hb2)
    clear hb2
    rw [HF.out]
    go_wp2
    go_ret
    exact ⟨rfl, HB2.out⟩
  have HF := Lib.hid (decide_eq_false hf)
  have HFO := Lib.hid hf
  have HS := Lib.hid (sml_of hf)
  have HRI := Lib.hid (fun (W : World) (hb : Below w.heap.size w W) => rright_any W (HP.out.below hb) HS.out)
  change Hid (∀ (W : World) (hb : Below w.heap.size w W), Calls Tryd.prog 12 #[.agg #[.int .i64 p.init, .slice v.A p.chs.length v.a, .slice v.B p.nms.length v.b, .slice v.C p.hds.length v.c]] W (BoolP (decide p.right) W)) at HRI
  clear hf
  go_enter Tryd.func5, Tryd.ntmps5
  go_wp2_with fail
  with_reducible refine (HAL.out).mono ?_
  rintro e w1 ⟨rfl, hb1⟩
  have HB1 := Lib.hid (below_t HW.out hb1)
  have HX1 := Lib.hid (HX.out.below hb1)
  obtain ⟨x0, x1, x2, x3⟩ := HX1.out.cells4
  clear hb1
  go_wp2_with fail
  with_reducible refine (HFAR.out _ HB1.out).mono ?_
  rintro e w2 ⟨rfl, hb2⟩
  have HB2 := Lib.hid (below_t HB1.out hb2)
  have HX2 := Lib.hid (HX1.out.below hb2)
  clear hb2 x0 x1 x2 x3
  obtain ⟨x0, x1, x2, x3⟩ := HX2.out.cells4
  rw [HF.out]
  go_wp2_with fail
  with_reducible refine (HRI.out _ HB2.out).mono ?_
  rintro e w3 ⟨rfl, hb3⟩
  have HB3 := Lib.hid (below_t HB2.out hb3)
  have HX3 := Lib.hid (HX2.out.below hb3)
  clear hb3 x0 x1 x2 x3
  obtain ⟨x0, x1, x2, x3⟩ := HX3.out.cells4
  clear HX HX1 HX2 HAL HFAR HRI HW HB1 HB2
  obtain ⟨m, hm⟩ : ∃ m, m = p.nms.length := ⟨_, rfl⟩
  by_cases hr : ¬ p.right
  · have HE := Lib.hid (decide_eq_false hr)
    clear hr hm
    rw [HE.out]
    go_wp2
    go_ret
    exact ⟨rfl, HB3.out⟩
  have hr' : p.right := Classical.not_not.1 hr
  have HE := Lib.hid (decide_eq_true hr')
  have HR := Lib.hid hr'
  clear hr hr'
  rw [HE.out]
  rw [← hm] at x2
  by_cases h1 : T = 0
  · clear hm
    have d1 : decide (T = 0) = true := by simp; omega
    have d1' : ((T : Int) == 0) = true := by simp; omega
    have d1n : (T == 0) = true := by simp; omega
    go_wp2
    go_ret
    exact ⟨rfl, HB3.out⟩
  have d1 : decide (T = 0) = false := by simp; omega
  have d1' : ((T : Int) == 0) = false := by simp; omega
  have d1n : (T == 0) = false := by simp; omega
  by_cases h2 : 10 < T
  · clear hm
    have d2 : decide (10 < T) = true := by simp; omega
    have d2' : decide ((10 : Int) < (T : Int)) = true := by simp; omega
    go_wp2
    go_ret
    exact ⟨rfl, HB3.out⟩
  have d2 : decide (10 < T) = false := by simp; omega
  have d2' : decide ((10 : Int) < (T : Int)) = false := by simp; omega
  by_cases h3 : m < 2
  · clear hm
    have d3 : decide (m < 2) = true := by simp; omega
    have d3' : decide ((m : Int) < (2 : Int)) = true := by simp; omega
    go_wp2
    go_ret
    exact ⟨rfl, HB3.out⟩
  have d3 : decide (m < 2) = false := by simp; omega
  have d3' : decide ((m : Int) < (2 : Int)) = false := by simp; omega
  by_cases h4 : 6 < m
  · clear hm
    have d4 : decide (6 < m) = true := by simp; omega
    have d4' : decide ((6 : Int) < (m : Int)) = true := by simp; omega
    go_wp2
    go_ret
    exact ⟨rfl, HB3.out⟩
  have d4 : decide (6 < m) = false := by simp; omega
  have d4' : decide ((6 : Int) < (m : Int)) = false := by simp; omega
  have HOF := Lib.hid (of_any w3 (HP.out.below HB3.out) HS.out)
  change Hid (Calls Tryd.prog 8 #[.agg #[.int .i64 p.init, .slice v.A p.chs.length v.a, .slice v.B p.nms.length v.b, .slice v.C p.hds.length v.c]] w3 (OfP p w3)) at HOF
  go_wp2_with fail
  with_reducible refine (HOF.out).mono ?_
  rintro e w4 ⟨vx, rfl, hpi, hb4⟩
  clear d1 d1' d1n d2 d2' d3 d3' d4 d4'
  have HM4 := Lib.hid (show TlM p v vx [] w w.heap.size w4.heap.size [] (w4.alloc (.cells #[.int .i64 p.init, .slice vx.A p.chs.length vx.a, .slice vx.B p.nms.length vx.b, .slice vx.C p.hds.length vx.c] 31)) from
    have hb5 := below_t HB3.out hb4
    have hb6 := below_alloc w4 (.cells #[.int .i64 p.init, .slice vx.A p.chs.length vx.a, .slice vx.B p.nms.length vx.b, .slice vx.C p.hds.length vx.c] 31)
    ⟨(HX3.out.below hb4).below hb6, Bx.new w4 31 _, (HP.out.below hb5).below hb6, hpi.mem.below hb6, fun y hy => absurd hy (by simp), HG.out.below (below_t hb5 hb6), below_t hb5 hb6⟩)
  clear hpi hb4 HX3 HB3 x0 x1 x2 x3 HOF
  dsimp only [PV.l]
  go_upto_region 6 with fail
  obtain ⟨b5, hb5⟩ : ∃ b5, b5 = w4.heap.size := ⟨_, rfl⟩
  generalize w4.alloc (.cells #[.int .i64 p.init, .slice vx.A p.chs.length vx.a, .slice vx.B p.nms.length vx.b, .slice vx.C p.hds.length vx.c] 31) = W5 at HM4 ⊢
  rw [← hb5] at HM4 ⊢
  clear hb5
  have HOF := Lib.hid (of_any W5 HM4.out.m HS.out)
  change Hid (Calls Tryd.prog 8 #[.agg #[.int .i64 p.init, .slice v.A p.chs.length v.a, .slice v.B p.nms.length v.b, .slice v.C p.hds.length v.c]] W5 (OfP p W5)) at HOF
  obtain ⟨x0, x1, x2, x3⟩ := HM4.out.bm.cells4
  go_wp2_with fail
  with_reducible refine (HOF.out).mono ?_
  rintro e w6 ⟨vy, rfl, hpi, hb6⟩
  dsimp only [PV.l]
  go_upto_region 7 with fail
  have hz6 := hb6.size
  have hb8 := hb6.alloc hz6 (.cells #[.int .i64 p.init, .slice vy.A p.chs.length vy.a, .slice vy.B p.nms.length vy.b, .slice vy.C p.hds.length vy.c] 31)
  have hbA := below_alloc w6 (.cells #[.int .i64 p.init, .slice vy.A p.chs.length vy.a, .slice vy.B p.nms.length vy.b, .slice vy.C p.hds.length vy.c] 31)
  have HPI := Lib.hid (show PrI (w6.alloc (.cells #[.int .i64 p.init, .slice vy.A p.chs.length vy.a, .slice vy.B p.nms.length vy.b, .slice vy.C p.hds.length vy.c] 31)) W5.heap.size w6.heap.size vy p from hpi.keep (Kp.of hbA (Nat.le_refl _)))
  have HX8 := Lib.hid (Bx.new w6 31 [.int .i64 p.init, .slice vy.A p.chs.length vy.a, .slice vy.B p.nms.length vy.b, .slice vy.C p.hds.length vy.c])
  change Hid (Bx (w6.alloc (.cells #[.int .i64 p.init, .slice vy.A p.chs.length vy.a, .slice vy.B p.nms.length vy.b, .slice vy.C p.hds.length vy.c] 31)) w6.heap.size 31 [.int .i64 p.init, .slice vy.A p.chs.length vy.a, .slice vy.B p.nms.length vy.b, .slice vy.C p.hds.length vy.c]) at HX8
  have HM8 := Lib.hid (HM4.out.below hb8)
  have HM4S := HM4.out.b.size
  have HM4T := HM4.out.bm.lt
  have HB8 := Lib.hid hb8
  have HZ8 := Lib.hid (show (w6.alloc (.cells #[.int .i64 p.init, .slice vy.A p.chs.length vy.a, .slice vy.B p.nms.length vy.b, .slice vy.C p.hds.length vy.c] 31)).heap.size = w6.heap.size + 1 by simp)
  clear hpi hb6 hb8 hbA HOF x0 x1 x2 x3
  generalize w6.alloc (.cells #[.int .i64 p.init, .slice vy.A p.chs.length vy.a, .slice vy.B p.nms.length vy.b, .slice vy.C p.hds.length vy.c] 31) = W8 at *
  generalize w6.heap.size = b8 at *
  have hn1 : 1 ≤ p.chs.length := by have := HR.out.1; omega
  obtain ⟨k, hk⟩ : ∃ k, k = s % p.chs.length := ⟨_, rfl⟩
  have hkn : k < p.chs.length := by rw [hk]; exact Nat.mod_lt _ (by omega)
  obtain ⟨g0, o0, x, rfl, hc0, hx⟩ := HT.out (by omega)
  clear HT
  obtain ⟨t, ht⟩ : ∃ t, t = x % p.chs.length := ⟨_, rfl⟩
  have htn : t < p.chs.length := by rw [ht]; exact Nat.mod_lt _ (by omega)
  have eK : (s : Int) % (p.chs.length : Int) = (k : Int) := by rw [hk]; simp
  have eT : (x : Int) % (p.chs.length : Int) = (t : Int) := by rw [ht]; simp
  have eW : IntKind.i64.wrap (x : Int) = (x : Int) := IntWalk.i64_in _ (by omega)
  have eT2 : Int.tmod (x : Int) (p.chs.length : Int) = (t : Int) := by rw [Int.tmod_eq_emod_of_nonneg (by omega), eT]
  have eT3 : Int.tmod (IntKind.i64.wrap (x : Int)) (p.chs.length : Int) = (t : Int) := by rw [eW, eT2]
  obtain ⟨g, l, r, B, cap, rc, cur, hgA, hlg, hgh, hlo, hlr, hrh, hcell, hcur, hm5, hob, hli, hre⟩ := HPI.out.row hkn
  rw [hgA] at HX8 ⊢
  obtain ⟨i1, hi1, hy⟩ := Option.map_eq_some_iff.1 infoCh
  simp only [Prod.mk.injEq] at hy
  obtain ⟨hy0, hy1, hy2⟩ := hy
  have HJ := Lib.hid hi1
  have HY0 := Lib.hid hy0
  have HY1 := Lib.hid hy1
  have HY2 := Lib.hid hy2
  have hL1 : p.chs[k].length ≤ 1000000 := HS.out.cs _ (List.getElem_mem hkn)
  obtain ⟨L, hL⟩ : ∃ L, L = p.chs[k].length := ⟨_, rfl⟩
  rw [← hL] at hL1 hcell hm5 hob
  obtain ⟨x0, x1, x2, x3⟩ := HM8.out.bm.cells4
  obtain ⟨y0, y1, y2, y3⟩ := HX8.out.cells4
  have hbm := HM8.out.bm.lt
  have hby := HX8.out.lt
  have hg8 : g < W8.heap.size := by rw [HZ8.out]; omega
  have hc8 : W8.cell? ⟨g0, o0, none⟩ = some (.int .u8 (x : Int)) := cell_blw HM8.out.b hc0
  have hg0 : g0 < w.heap.size := World.block_lt_of_cell? w _ hc0
  have hwz := HM8.out.b.size
  have hg08 : g0 < W8.heap.size := by omega
  have hf8 : W8.frozen? ⟨g, k, none⟩ = false := Bx.frozen (q := g) (t := 50) (cs := cur.toList) hcur k
  have HOWN := Lib.hid (own_belowM hm5 ((below_t (below_alloc W8 (.cells #[.int .i64 (t : Int), .int .i64 3] 60)) (below_alloc _ (.cells #[.string ⟨#[]⟩, .slice (some ⟨W8.heap.size, 0, none⟩) 1 1] 49))).drew))
  clear hi1 hy0 hy1 hy2
  go_upto_region 8 with fail
  rw [eK]
  have hne1 : ¬ (p.chs.length : Int) = 0 := by omega
  have hne2 : ¬ p.chs = [] := fun e => by rw [e] at hn1; simp at hn1
  have hne3 : ((p.chs.length : Int) == 0) = false := by rw [beq_eq_false_iff_ne]; exact hne1
  have hne4 : ¬ p.chs.length = 0 := by omega
  have hx255 : (x : Int) ≤ 255 := by omega
  have hx0 : (0 : Int) ≤ (x : Int) := by omega
  have hgb : ¬ g = b8 := by omega
  have hgb' : ¬ b8 = g := by omega
  have hgb0 : ¬ g = g0 := by omega
  have hgb0' : ¬ g0 = g := by omega
  have hgbw : ¬ g = w.heap.size := by omega
  have hgbw' : ¬ w.heap.size = g := by omega
  have hk0 : (0 : Int) ≤ (k : Int) := Int.natCast_nonneg _
  have hk1 : (k : Int) < (p.chs.length : Int) := by omega
  have hT0 : (0 : Int) < (T : Int) := by omega
  have hT1 : 0 < T := by omega
  have hgW : w.heap.size ≤ W5.heap.size := HM4S
  have HNB2 := Lib.hid ((Bx.new (W8.alloc (.cells #[.int .i64 (t : Int), .int .i64 3] 60)) 49 [.string ⟨#[]⟩, .slice (some ⟨W8.heap.size, 0, none⟩) 1 1]).below ((Below.refl _ _).drew))
  have HKP := Lib.hid (show ∀ w5 : World, (((W8.alloc (.cells #[.int .i64 (t : Int), .int .i64 3] 60)).alloc (.cells #[.string ⟨#[]⟩, .slice (some ⟨W8.heap.size, 0, none⟩) 1 1] 49)).drew).grownBy w5 (Value.slice B L cap).ownBlock → (fun w' : World => w'.cell? ⟨b8, 1, none⟩ = some (.slice (some ⟨g, 0, none⟩) p.chs.length vy.a) ∧ w'.cell? ⟨g0, o0, none⟩ = some (.int .u8 (x : Int)) ∧ w'.cell? ⟨w.heap.size, 1, none⟩ = some (.slice v.A p.chs.length v.a)) w5 from fun w5 hgrow => by
    have hbb : Below W8.heap.size W8 (((W8.alloc (.cells #[.int .i64 (t : Int), .int .i64 3] 60)).alloc (.cells #[.string ⟨#[]⟩, .slice (some ⟨W8.heap.size, 0, none⟩) 1 1] 49)).drew) := (below_t (below_alloc W8 _) (below_alloc _ _)).drew
    have hfar : ∀ (q i : Nat) (u : Value), q < W8.heap.size → some q ≠ (Value.slice B L cap).ownBlock → W8.cell? ⟨q, i, none⟩ = some u → w5.cell? ⟨q, i, none⟩ = some u := fun q i u hq hne hu => by
      have hz := hbb.size
      rw [hgrow.cell_far ⟨q, i, none⟩ (by show q < _; omega) hne]
      exact cell_blw hbb hu
    refine ⟨hfar _ _ _ hby ?_ y1, hfar _ _ _ hg08 ?_ hc8, hfar _ _ _ hbm ?_ x1⟩
    · exact own_other (cs := _) hm5 HX8.out (by decide)
    · intro e
      have := (hm5.lt _ e.symm).1
      omega
    · exact own_other hm5 HM8.out.bm (by decide))
  have HFZ := Lib.hid (show ∀ w5 : World, (((W8.alloc (.cells #[.int .i64 (t : Int), .int .i64 3] 60)).alloc (.cells #[.string ⟨#[]⟩, .slice (some ⟨W8.heap.size, 0, none⟩) 1 1] 49)).drew).grownBy w5 (Value.slice B L cap).ownBlock → w5.frozen? ⟨g, k, none⟩ = false ∧ w5.cell? ⟨g, k, none⟩ = some (.slice B L cap) from fun w5 hgrow => by
    have hbb : Below W8.heap.size W8 (((W8.alloc (.cells #[.int .i64 (t : Int), .int .i64 3] 60)).alloc (.cells #[.string ⟨#[]⟩, .slice (some ⟨W8.heap.size, 0, none⟩) 1 1] 49)).drew) := (below_t (below_alloc W8 _) (below_alloc _ _)).drew
    have hz := hbb.size
    have h1 := (hbb.block g hg8).trans hcur
    have h2 := (hgrow.block g (by omega) (own_other (own_belowM hm5 hbb) h1 (by decide))).trans h1
    exact ⟨Bx.frozen (q := g) (t := 50) (cs := cur.toList) h2 k, (Bx.cell (q := g) (t := 50) (cs := cur.toList) h2 k).trans ((Bx.cell (q := g) (t := 50) (cs := cur.toList) hcur k).symm.trans hcell)⟩)
  clear x0 x2 x3 y0 y2 y3 hk ht
  have HLL := Lib.hid hL
  clear hL
  have HMN := Lib.hid hm
  clear hm
  have HS8 := Lib.hid (show (fun w' : World => w'.cell? ⟨b8, 1, none⟩ = some (.slice (some ⟨g, 0, none⟩) p.chs.length vy.a) ∧ w'.cell? ⟨g0, o0, none⟩ = some (.int .u8 (x : Int)) ∧ w'.cell? ⟨w.heap.size, 1, none⟩ = some (.slice v.A p.chs.length v.a)) W8.drew from ⟨y1, hc8, x1⟩)
  have HS8a := Lib.hid (show (fun w' : World => w'.cell? ⟨b8, 1, none⟩ = some (.slice (some ⟨g, 0, none⟩) p.chs.length vy.a) ∧ w'.cell? ⟨g0, o0, none⟩ = some (.int .u8 (x : Int)) ∧ w'.cell? ⟨w.heap.size, 1, none⟩ = some (.slice v.A p.chs.length v.a)) (W8.alloc (.cells #[.int .i64 (t : Int), .int .i64 3] 60)).drew from ⟨cell_blw (below_alloc W8 _).drew y1, cell_blw (below_alloc W8 _).drew hc8, cell_blw (below_alloc W8 _).drew x1⟩)
  have HS8b := Lib.hid (show (fun w' : World => w'.cell? ⟨b8, 1, none⟩ = some (.slice (some ⟨g, 0, none⟩) p.chs.length vy.a) ∧ w'.cell? ⟨g0, o0, none⟩ = some (.int .u8 (x : Int)) ∧ w'.cell? ⟨w.heap.size, 1, none⟩ = some (.slice v.A p.chs.length v.a)) ((W8.alloc (.cells #[.int .i64 (t : Int), .int .i64 3] 60)).alloc (.cells #[.string ⟨#[]⟩, .slice (some ⟨W8.heap.size, 0, none⟩) 1 1] 49)).drew from ⟨cell_blw (below_t (below_alloc W8 _) (below_alloc _ _)).drew y1, cell_blw (below_t (below_alloc W8 _) (below_alloc _ _)).drew hc8, cell_blw (below_t (below_alloc W8 _) (below_alloc _ _)).drew x1⟩)
  have HGM := Lib.hid (show ∀ (g5 cap5 : Nat) (w5 : World), (((W8.alloc (.cells #[.int .i64 (t : Int), .int .i64 3] 60)).alloc (.cells #[.string ⟨#[]⟩, .slice (some ⟨W8.heap.size, 0, none⟩) 1 1] 49)).drew).grownBy w5 (Value.slice B L cap).ownBlock → w5.ownsRow l 49 2 (.slice (some ⟨g5, 0, none⟩) (L + 1) cap5) (L + 1) (rc ++ [.string ⟨#[]⟩, .slice (some ⟨W8.heap.size, 0, none⟩) 1 1]) →
      GrM p v vx vy k (t : Int) w w.heap.size b5 b8 [] (w5.setCell ⟨g, k, none⟩ (.slice (some ⟨g5, 0, none⟩) (L + 1) cap5)) from fun g5 cap5 w5 hg5 ho5 => by
    have hL := HLL.out
    have h5b := (hg5.block b8 (by simp; omega) (own_other (own_belowM hm5 ((below_t (below_alloc W8 (.cells #[.int .i64 (t : Int), .int .i64 3] 60)) (below_alloc _ (.cells #[.string ⟨#[]⟩, .slice (some ⟨W8.heap.size, 0, none⟩) 1 1] 49))).drew)) ((HX8.out.below (below_t (below_alloc W8 (.cells #[.int .i64 (t : Int), .int .i64 3] 60)) (below_alloc _ (.cells #[.string ⟨#[]⟩, .slice (some ⟨W8.heap.size, 0, none⟩) 1 1] 49)))).below ((Below.refl _ _).drew)) (by decide)))
    have hby5 : Bx w5 b8 31 [.int .i64 p.init, .slice (some ⟨g, 0, none⟩) p.chs.length vy.a, .slice vy.B p.nms.length vy.b, .slice vy.C p.hds.length vy.c] := h5b.trans ((HX8.out.below (below_t (below_alloc W8 (.cells #[.int .i64 (t : Int), .int .i64 3] 60)) (below_alloc _ (.cells #[.string ⟨#[]⟩, .slice (some ⟨W8.heap.size, 0, none⟩) 1 1] 49)))).below ((Below.refl _ _).drew))
    subst hL
    obtain ⟨h1, h2⟩ := grow_mem (v := vy) (p := p) (t := (t : Int)) (wB := W8.drew) ((Below.refl _ W8).drew) rfl (by rw [HZ8.out]; omega) hlo hlr hrh hlg hgh hcur hkn hcell hm5 hob hli hre hg5 ho5
    refine ⟨HM4.out.below (HB8.out.trans h2), ?_, h1⟩
    have := hby5.put (q' := g) (i := k) (u := .slice (some ⟨g5, 0, none⟩) (p.chs[k].length + 1) cap5) hgb'
    rw [PV.l, hgA]
    exact this)
  go_cut [] from 61 to 82 (fun W => GrM p v vx vy k (t : Int) w w.heap.size b5 b8 [] W)
  case first =>
    refine wp_region_held_drew (S := (fun w' : World => w'.cell? ⟨b8, 1, none⟩ = some (.slice (some ⟨g, 0, none⟩) p.chs.length vy.a) ∧ w'.cell? ⟨g0, o0, none⟩ = some (.int .u8 (x : Int)) ∧ w'.cell? ⟨w.heap.size, 1, none⟩ = some (.slice v.A p.chs.length v.a))) (by kernel_rfl) HS8.out (fun hHeld => ?_)
    refine wpAnyH_take (i := 0) (oi := { dst := some 61, op := Op.fieldAddr 31 (Operand.tmp 8) 1, type := 0, pos := "law.go:176", after := #[], guard := none }) (v := Value.pointer (some ⟨b8, 1, none⟩)) rfl (by kernel_rfl) (by kernel_rfl) (by kernel_rfl) (fun _ _ _ h => h) (Or.inl ⟨by rfl, ?hy⟩) (by assumption) ?_
    case hy => (intro wz hSw; (try dsimp only at hSw); go_simp)
    simp only [Act.put, List.setIfInBounds_toArray, List.set_cons_zero, List.set_cons_succ]
    refine wpAnyH_take (i := 1) (oi := { dst := some 62, op := Op.load 29 (Operand.tmp 61), type := 29, pos := "law.go:176", after := #[{ on := 0, ground := Ground.data }], guard := none }) (v := Value.slice (some ⟨g, 0, none⟩) p.chs.length vy.a) rfl (by kernel_rfl) (by kernel_rfl) (by kernel_rfl) (fun _ _ _ h => h) (Or.inl ⟨by rfl, ?hy⟩) (by assumption) ?_
    case hy => (intro wz hSw; (try dsimp only at hSw); go_simp)
    simp only [Act.put, List.setIfInBounds_toArray, List.set_cons_zero, List.set_cons_succ]
    refine wpAnyH_take (i := 2) (oi := { dst := some 63, op := Op.move (Operand.tmp 9), type := 3, pos := "law.go:176", after := #[], guard := none }) (v := Value.int .i64 (k : Int)) rfl (by kernel_rfl) (by kernel_rfl) (by kernel_rfl) (fun _ _ _ h => h) (Or.inl ⟨by rfl, ?hy⟩) (by assumption) ?_
    case hy => (intro wz hSw; (try dsimp only at hSw); go_simp)
    simp only [Act.put, List.setIfInBounds_toArray, List.set_cons_zero, List.set_cons_succ]
    refine wpAnyH_take (i := 3) (oi := { dst := some 64, op := Op.fieldAddr 31 (Operand.tmp 8) 1, type := 0, pos := "law.go:176", after := #[], guard := none }) (v := Value.pointer (some ⟨b8, 1, none⟩)) rfl (by kernel_rfl) (by kernel_rfl) (by kernel_rfl) (fun _ _ _ h => h) (Or.inl ⟨by rfl, ?hy⟩) (by assumption) ?_
    case hy => (intro wz hSw; (try dsimp only at hSw); go_simp)
    simp only [Act.put, List.setIfInBounds_toArray, List.set_cons_zero, List.set_cons_succ]
    refine wpAnyH_take (i := 4) (oi := { dst := some 65, op := Op.load 29 (Operand.tmp 64), type := 29, pos := "law.go:176", after := #[{ on := 3, ground := Ground.data }], guard := none }) (v := Value.slice (some ⟨g, 0, none⟩) p.chs.length vy.a) rfl (by kernel_rfl) (by kernel_rfl) (by kernel_rfl) (fun _ _ _ h => h) (Or.inl ⟨by rfl, ?hy⟩) (by assumption) ?_
    case hy => (intro wz hSw; (try dsimp only at hSw); go_simp)
    simp only [Act.put, List.setIfInBounds_toArray, List.set_cons_zero, List.set_cons_succ]
    refine wpAnyH_take (i := 5) (oi := { dst := some 66, op := Op.move (Operand.tmp 9), type := 3, pos := "law.go:176", after := #[], guard := none }) (v := Value.int .i64 (k : Int)) rfl (by kernel_rfl) (by kernel_rfl) (by kernel_rfl) (fun _ _ _ h => h) (Or.inl ⟨by rfl, ?hy⟩) (by assumption) ?_
    case hy => (intro wz hSw; (try dsimp only at hSw); go_simp)
    simp only [Act.put, List.setIfInBounds_toArray, List.set_cons_zero, List.set_cons_succ]
    refine wpAnyH_take (i := 6) (oi := { dst := some 67, op := Op.indexAddr 29 (Operand.tmp 65) (Operand.tmp 66), type := 0, pos := "law.go:176", after := #[{ on := 4, ground := Ground.data }, { on := 5, ground := Ground.data }], guard := none }) (v := Value.pointer (some ⟨g, k, none⟩)) rfl (by kernel_rfl) (by kernel_rfl) (by kernel_rfl) (fun _ _ _ h => h) (Or.inl ⟨by rfl, ?hy⟩) (by assumption) ?_
    case hy => (intro wz hSw; (try dsimp only at hSw); go_simp)
    simp only [Act.put, List.setIfInBounds_toArray, List.set_cons_zero, List.set_cons_succ]
    refine wpAnyH_take (i := 8) (oi := { dst := some 69, op := Op.move (Operand.tmp 2), type := 63, pos := "law.go:176", after := #[], guard := none }) (v := Value.slice (some ⟨g0, o0, none⟩) T cl) rfl (by kernel_rfl) (by kernel_rfl) (by kernel_rfl) (fun _ _ _ h => h) (Or.inl ⟨by rfl, ?hy⟩) (by assumption) ?_
    case hy => (intro wz hSw; (try dsimp only at hSw); go_simp)
    simp only [Act.put, List.setIfInBounds_toArray, List.set_cons_zero, List.set_cons_succ]
    refine wpAnyH_take (i := 9) (oi := { dst := some 70, op := Op.indexAddr 63 (Operand.tmp 69) (Operand.const (Value.int IntKind.i64 0)), type := 0, pos := "law.go:176", after := #[{ on := 8, ground := Ground.data }], guard := none }) (v := Value.pointer (some ⟨g0, o0, none⟩)) rfl (by kernel_rfl) (by kernel_rfl) (by kernel_rfl) (fun _ _ _ h => h) (Or.inl ⟨by rfl, ?hy⟩) (by assumption) ?_
    case hy => (intro wz hSw; (try dsimp only at hSw); go_simp)
    simp only [Act.put, List.setIfInBounds_toArray, List.set_cons_zero, List.set_cons_succ]
    refine wpAnyH_take (i := 10) (oi := { dst := some 71, op := Op.load 5 (Operand.tmp 70), type := 5, pos := "law.go:176", after := #[{ on := 9, ground := Ground.data }], guard := none }) (v := Value.int .u8 (x : Int)) rfl (by kernel_rfl) (by kernel_rfl) (by kernel_rfl) (fun _ _ _ h => h) (Or.inl ⟨by rfl, ?hy⟩) (by assumption) ?_
    case hy => (intro wz hSw; (try dsimp only at hSw); go_simp)
    simp only [Act.put, List.setIfInBounds_toArray, List.set_cons_zero, List.set_cons_succ]
    refine wpAnyH_take (i := 11) (oi := { dst := some 72, op := Op.convert 5 3 (Operand.tmp 71), type := 3, pos := "law.go:176", after := #[{ on := 10, ground := Ground.data }], guard := none }) (v := Value.int .i64 (x : Int)) rfl (by kernel_rfl) (by kernel_rfl) (by kernel_rfl) (fun _ _ _ h => h) (Or.inl ⟨by rfl, ?hy⟩) (by assumption) ?_
    case hy => (intro wz hSw; (try dsimp only at hSw); go_simp)
    simp only [Act.put, List.setIfInBounds_toArray, List.set_cons_zero, List.set_cons_succ]
    refine wpAnyH_take (i := 12) (oi := { dst := some 73, op := Op.fieldAddr 26 (Operand.tmp 3) 1, type := 0, pos := "law.go:176", after := #[], guard := none }) (v := Value.pointer (some ⟨w.heap.size, 1, none⟩)) rfl (by kernel_rfl) (by kernel_rfl) (by kernel_rfl) (fun _ _ _ h => h) (Or.inl ⟨by rfl, ?hy⟩) (by assumption) ?_
    case hy => (intro wz hSw; (try dsimp only at hSw); go_simp)
    simp only [Act.put, List.setIfInBounds_toArray, List.set_cons_zero, List.set_cons_succ]
    refine wpAnyH_take (i := 13) (oi := { dst := some 74, op := Op.load 22 (Operand.tmp 73), type := 22, pos := "law.go:176", after := #[{ on := 12, ground := Ground.data }], guard := none }) (v := Value.slice v.A p.chs.length v.a) rfl (by kernel_rfl) (by kernel_rfl) (by kernel_rfl) (fun _ _ _ h => h) (Or.inl ⟨by rfl, ?hy⟩) (by assumption) ?_
    case hy => (intro wz hSw; (try dsimp only at hSw); go_simp)
    simp only [Act.put, List.setIfInBounds_toArray, List.set_cons_zero, List.set_cons_succ]
    refine wpAnyH_take (i := 14) (oi := { dst := some 75, op := Op.call { callee := Callee.builtin Builtin.len, args := #[Operand.tmp 74], argTypes := #[22] }, type := 3, pos := "law.go:176", after := #[{ on := 13, ground := Ground.data }], guard := none }) (v := Value.int .i64 (p.chs.length : Int)) rfl (by kernel_rfl) (by kernel_rfl) (by kernel_rfl) (fun _ _ _ h => h) (Or.inl ⟨by rfl, ?hy⟩) (by assumption) ?_
    case hy => (intro wz hSw; (try dsimp only at hSw); go_simp)
    simp only [Act.put, List.setIfInBounds_toArray, List.set_cons_zero, List.set_cons_succ]
    refine wpAnyH_take (i := 15) (oi := { dst := some 76, op := Op.binOp BinOp.rem 3 (Operand.tmp 72) (Operand.tmp 75) 3, type := 3, pos := "law.go:176", after := #[{ on := 11, ground := Ground.data }, { on := 14, ground := Ground.data }], guard := none }) (v := Value.int .i64 (t : Int)) rfl (by kernel_rfl) (by kernel_rfl) (by kernel_rfl) (fun _ _ _ h => h) (Or.inl ⟨by rfl, ?hy⟩) (by assumption) ?_
    case hy => (intro wz hSw; (try dsimp only at hSw); go_simp)
    simp only [Act.put, List.setIfInBounds_toArray, List.set_cons_zero, List.set_cons_succ]
    refine wpAnyH_take (i := 16) (oi := { dst := some 77, op := Op.build 60 #[(0, Operand.tmp 76), (1, Operand.const (Value.int IntKind.i64 3))], type := 60, pos := "law.go:176", after := #[{ on := 15, ground := Ground.data }], guard := none }) (v := Value.agg #[.int .i64 (t : Int), .int .i64 3]) rfl (by kernel_rfl) (by kernel_rfl) (by kernel_rfl) (fun _ _ _ h => h) (Or.inl ⟨by rfl, ?hy⟩) (by assumption) ?_
    case hy => (intro wz hSw; (try dsimp only at hSw); go_simp)
    simp only [Act.put, List.setIfInBounds_toArray, List.set_cons_zero, List.set_cons_succ]
    refine wpAnyH_ready (rs := [7, 17]) (by kernel_rfl) (by simp) ?_
    refine (AllReadyH.cons (o := { dst := some 68, op := Op.load 50 (Operand.tmp 67), type := 50, pos := "law.go:176", after := #[{ on := 6, ground := Ground.data }], guard := none }) rfl (fun K0 hK0 => ?_) (AllReadyH.cons (o := { dst := some 78, op := Op.buildSlice 47 1 #[(0, Operand.tmp 77)], type := 47, pos := "law.go:176", after := #[{ on := 16, ground := Ground.data }], guard := none }) rfl (fun K0 hK0 => ?_) AllReadyH.nil))
    · go_simp
      refine hK0.out _ _ (HS8.out) (fun hHeld => ?_)
      clear hK0 K0
      try simp only [Act.put, List.setIfInBounds_toArray, List.set_cons_zero, List.set_cons_succ]
      refine wpAnyH_ready (rs := [17]) (by kernel_rfl) (by simp) ?_
      refine (AllReadyH.cons (o := { dst := some 78, op := Op.buildSlice 47 1 #[(0, Operand.tmp 77)], type := 47, pos := "law.go:176", after := #[{ on := 16, ground := Ground.data }], guard := none }) rfl (fun K0 hK0 => ?_) AllReadyH.nil)
      go_simp
      refine hK0.out _ _ (HS8a.out) (fun hHeld => ?_)
      clear hK0 K0
      try simp only [Act.put, List.setIfInBounds_toArray, List.set_cons_zero, List.set_cons_succ]
      refine wpAnyH_take (i := 18) (oi := { dst := some 79, op := Op.build 49 #[(1, Operand.tmp 78)], type := 49, pos := "law.go:176", after := #[{ on := 17, ground := Ground.data }], guard := none }) (v := Value.agg #[.string ⟨#[]⟩, .slice (some ⟨W8.heap.size, 0, none⟩) 1 1]) rfl (by kernel_rfl) (by kernel_rfl) (by kernel_rfl) (fun _ _ _ h => h) (Or.inl ⟨by rfl, ?hy⟩) (by assumption) ?_
      case hy => (intro wz hSw; (try dsimp only at hSw); go_simp)
      simp only [Act.put, List.setIfInBounds_toArray, List.set_cons_zero, List.set_cons_succ]
      refine wpAnyH_ready (rs := [19]) (by kernel_rfl) (by simp) ?_
      refine (AllReadyH.cons (o := { dst := some 80, op := Op.buildSlice 50 1 #[(0, Operand.tmp 79)], type := 50, pos := "law.go:176", after := #[{ on := 18, ground := Ground.data }], guard := none }) rfl (fun K0 hK0 => ?_) AllReadyH.nil)
      go_simp
      refine hK0.out _ _ (HS8b.out) (fun hHeld => ?_)
      clear hK0 K0
      try simp only [Act.put, List.setIfInBounds_toArray, List.set_cons_zero, List.set_cons_succ]
      refine wpAnyH_ready (rs := [20]) (by kernel_rfl) (by simp) ?_
      refine (AllReadyH.cons (o := { dst := some 81, op := Op.call { callee := Callee.builtin Builtin.append, args := #[Operand.tmp 68, Operand.tmp 80], argTypes := #[50, 50] }, type := 50, pos := "law.go:176", after := #[{ on := 7, ground := Ground.data }, { on := 19, ground := Ground.data }], guard := none }) rfl (fun K0 hK0 => ?_) AllReadyH.nil)
      refine step_append_lies (((W8.alloc (.cells #[.int .i64 (t : Int), .int .i64 3] 60)).alloc (.cells #[.string ⟨#[]⟩, .slice (some ⟨W8.heap.size, 0, none⟩) 1 1] 49)).drew) (by rfl) (.tmp 68) (.tmp 80) 50 (by rfl) l 49 i1 (.agg #[.string ⟨#[]⟩, .slice none 0 0]) 2 40 Tryd.underlying50 HJ.out HY0.out HY1.out HY2.out rfl (by decide) (.slice B L cap) L rc (by simp [Act.eval]) HOWN.out ⟨W8.heap.size + 1, 0, none⟩ 1 1 [.string ⟨#[]⟩, .slice (some ⟨W8.heap.size, 0, none⟩) 1 1] (by simp [Act.eval]) rfl (lies_at2 HNB2.out (by simp)) (two_cells rfl rfl) (by decide) (by unfold maxLen; omega) (by omega) (by simp; omega) (W8.heap.size + 2) (by simp) ?_
      intro g5 cap5 w5 ho5 hgrow hat hlt
      obtain ⟨hf5, hc5⟩ := HFZ.out _ hgrow
      have q5 := HKP.out _ hgrow
      refine hK0.out _ _ (q5) (fun hHeld => ?_)
      clear hK0 K0
      try simp only [Act.put, List.setIfInBounds_toArray, List.set_cons_zero, List.set_cons_succ]
      refine wpAnyH_take (i := 21) (oi := { dst := some 82, op := Op.indexAddr 29 (Operand.tmp 62) (Operand.tmp 63), type := 0, pos := "law.go:176", after := #[{ on := 1, ground := Ground.data }, { on := 2, ground := Ground.data }, { on := 0, ground := Ground.phase }, { on := 1, ground := Ground.phase }, { on := 2, ground := Ground.phase }, { on := 3, ground := Ground.phase }, { on := 4, ground := Ground.phase }, { on := 5, ground := Ground.phase }, { on := 6, ground := Ground.phase }, { on := 7, ground := Ground.phase }, { on := 8, ground := Ground.phase }, { on := 9, ground := Ground.phase }, { on := 10, ground := Ground.phase }, { on := 11, ground := Ground.phase }, { on := 12, ground := Ground.phase }, { on := 13, ground := Ground.phase }, { on := 14, ground := Ground.phase }, { on := 15, ground := Ground.phase }, { on := 16, ground := Ground.phase }, { on := 17, ground := Ground.phase }, { on := 18, ground := Ground.phase }, { on := 19, ground := Ground.phase }, { on := 20, ground := Ground.phase }], guard := none }) (v := Value.pointer (some ⟨g, k, none⟩)) rfl (by kernel_rfl) (by kernel_rfl) (by kernel_rfl) (fun _ _ _ h => h) (Or.inl ⟨by rfl, ?hy⟩) (by assumption) ?_
      case hy => (intro wz hSw; (try dsimp only at hSw); go_simp)
      simp only [Act.put, List.setIfInBounds_toArray, List.set_cons_zero, List.set_cons_succ]
      refine wpAnyH_ready (rs := [22]) (by kernel_rfl) (by simp) ?_
      refine (AllReadyH.cons (o := { dst := none, op := Op.store 50 (Operand.tmp 82) (Operand.tmp 81), type := 0, pos := "law.go:176", after := #[{ on := 21, ground := Ground.data }, { on := 20, ground := Ground.data }, { on := 20, ground := Ground.chain }, { on := 0, ground := Ground.phase }, { on := 1, ground := Ground.phase }, { on := 2, ground := Ground.phase }, { on := 3, ground := Ground.phase }, { on := 4, ground := Ground.phase }, { on := 5, ground := Ground.phase }, { on := 6, ground := Ground.phase }, { on := 7, ground := Ground.phase }, { on := 8, ground := Ground.phase }, { on := 9, ground := Ground.phase }, { on := 10, ground := Ground.phase }, { on := 11, ground := Ground.phase }, { on := 12, ground := Ground.phase }, { on := 13, ground := Ground.phase }, { on := 14, ground := Ground.phase }, { on := 15, ground := Ground.phase }, { on := 16, ground := Ground.phase }, { on := 17, ground := Ground.phase }, { on := 18, ground := Ground.phase }, { on := 19, ground := Ground.phase }, { on := 20, ground := Ground.phase }], guard := none }) rfl (fun K0 hK0 => ?_) AllReadyH.nil)
      go_simp
      refine hK0.out _ _ (⟨(World.cell?_setCell_far _ ⟨g, k, none⟩ _ _ hgb).trans q5.1, (World.cell?_setCell_far _ ⟨g, k, none⟩ _ _ hgb0).trans q5.2.1, (World.cell?_setCell_far _ ⟨g, k, none⟩ _ _ hgbw).trans q5.2.2⟩) (fun hHeld => ?_)
      clear hK0 K0
      try simp only [Act.put, List.setIfInBounds_toArray, List.set_cons_zero, List.set_cons_succ]
      refine wpAnyH_done (by kernel_rfl) ?_ _
      have HGF := Lib.hid (HGM.out _ _ _ hgrow ho5)
      clear ho5 hgrow hat hlt hf5 hc5 q5
      go_wp2
      go_meet
      exact HGF.out
    · go_simp
      refine hK0.out _ _ (HS8a.out) (fun hHeld => ?_)
      clear hK0 K0
      try simp only [Act.put, List.setIfInBounds_toArray, List.set_cons_zero, List.set_cons_succ]
      refine wpAnyH_take (i := 18) (oi := { dst := some 79, op := Op.build 49 #[(1, Operand.tmp 78)], type := 49, pos := "law.go:176", after := #[{ on := 17, ground := Ground.data }], guard := none }) (v := Value.agg #[.string ⟨#[]⟩, .slice (some ⟨W8.heap.size, 0, none⟩) 1 1]) rfl (by kernel_rfl) (by kernel_rfl) (by kernel_rfl) (fun _ _ _ h => h) (Or.inl ⟨by rfl, ?hy⟩) (by assumption) ?_
      case hy => (intro wz hSw; (try dsimp only at hSw); go_simp)
      simp only [Act.put, List.setIfInBounds_toArray, List.set_cons_zero, List.set_cons_succ]
      refine wpAnyH_ready (rs := [7, 19]) (by kernel_rfl) (by simp) ?_
      refine (AllReadyH.cons (o := { dst := some 68, op := Op.load 50 (Operand.tmp 67), type := 50, pos := "law.go:176", after := #[{ on := 6, ground := Ground.data }], guard := none }) rfl (fun K0 hK0 => ?_) (AllReadyH.cons (o := { dst := some 80, op := Op.buildSlice 50 1 #[(0, Operand.tmp 79)], type := 50, pos := "law.go:176", after := #[{ on := 18, ground := Ground.data }], guard := none }) rfl (fun K0 hK0 => ?_) AllReadyH.nil))
      · go_simp
        refine hK0.out _ _ (HS8a.out) (fun hHeld => ?_)
        clear hK0 K0
        try simp only [Act.put, List.setIfInBounds_toArray, List.set_cons_zero, List.set_cons_succ]
        refine wpAnyH_ready (rs := [19]) (by kernel_rfl) (by simp) ?_
        refine (AllReadyH.cons (o := { dst := some 80, op := Op.buildSlice 50 1 #[(0, Operand.tmp 79)], type := 50, pos := "law.go:176", after := #[{ on := 18, ground := Ground.data }], guard := none }) rfl (fun K0 hK0 => ?_) AllReadyH.nil)
        go_simp
        refine hK0.out _ _ (HS8b.out) (fun hHeld => ?_)
        clear hK0 K0
        try simp only [Act.put, List.setIfInBounds_toArray, List.set_cons_zero, List.set_cons_succ]
        refine wpAnyH_ready (rs := [20]) (by kernel_rfl) (by simp) ?_
        refine (AllReadyH.cons (o := { dst := some 81, op := Op.call { callee := Callee.builtin Builtin.append, args := #[Operand.tmp 68, Operand.tmp 80], argTypes := #[50, 50] }, type := 50, pos := "law.go:176", after := #[{ on := 7, ground := Ground.data }, { on := 19, ground := Ground.data }], guard := none }) rfl (fun K0 hK0 => ?_) AllReadyH.nil)
        refine step_append_lies (((W8.alloc (.cells #[.int .i64 (t : Int), .int .i64 3] 60)).alloc (.cells #[.string ⟨#[]⟩, .slice (some ⟨W8.heap.size, 0, none⟩) 1 1] 49)).drew) (by rfl) (.tmp 68) (.tmp 80) 50 (by rfl) l 49 i1 (.agg #[.string ⟨#[]⟩, .slice none 0 0]) 2 40 Tryd.underlying50 HJ.out HY0.out HY1.out HY2.out rfl (by decide) (.slice B L cap) L rc (by simp [Act.eval]) HOWN.out ⟨W8.heap.size + 1, 0, none⟩ 1 1 [.string ⟨#[]⟩, .slice (some ⟨W8.heap.size, 0, none⟩) 1 1] (by simp [Act.eval]) rfl (lies_at2 HNB2.out (by simp)) (two_cells rfl rfl) (by decide) (by unfold maxLen; omega) (by omega) (by simp; omega) (W8.heap.size + 2) (by simp) ?_
        intro g5 cap5 w5 ho5 hgrow hat hlt
        obtain ⟨hf5, hc5⟩ := HFZ.out _ hgrow
        have q5 := HKP.out _ hgrow
        refine hK0.out _ _ (q5) (fun hHeld => ?_)
        clear hK0 K0
        try simp only [Act.put, List.setIfInBounds_toArray, List.set_cons_zero, List.set_cons_succ]
        refine wpAnyH_take (i := 21) (oi := { dst := some 82, op := Op.indexAddr 29 (Operand.tmp 62) (Operand.tmp 63), type := 0, pos := "law.go:176", after := #[{ on := 1, ground := Ground.data }, { on := 2, ground := Ground.data }, { on := 0, ground := Ground.phase }, { on := 1, ground := Ground.phase }, { on := 2, ground := Ground.phase }, { on := 3, ground := Ground.phase }, { on := 4, ground := Ground.phase }, { on := 5, ground := Ground.phase }, { on := 6, ground := Ground.phase }, { on := 7, ground := Ground.phase }, { on := 8, ground := Ground.phase }, { on := 9, ground := Ground.phase }, { on := 10, ground := Ground.phase }, { on := 11, ground := Ground.phase }, { on := 12, ground := Ground.phase }, { on := 13, ground := Ground.phase }, { on := 14, ground := Ground.phase }, { on := 15, ground := Ground.phase }, { on := 16, ground := Ground.phase }, { on := 17, ground := Ground.phase }, { on := 18, ground := Ground.phase }, { on := 19, ground := Ground.phase }, { on := 20, ground := Ground.phase }], guard := none }) (v := Value.pointer (some ⟨g, k, none⟩)) rfl (by kernel_rfl) (by kernel_rfl) (by kernel_rfl) (fun _ _ _ h => h) (Or.inl ⟨by rfl, ?hy⟩) (by assumption) ?_
        case hy => (intro wz hSw; (try dsimp only at hSw); go_simp)
        simp only [Act.put, List.setIfInBounds_toArray, List.set_cons_zero, List.set_cons_succ]
        refine wpAnyH_ready (rs := [22]) (by kernel_rfl) (by simp) ?_
        refine (AllReadyH.cons (o := { dst := none, op := Op.store 50 (Operand.tmp 82) (Operand.tmp 81), type := 0, pos := "law.go:176", after := #[{ on := 21, ground := Ground.data }, { on := 20, ground := Ground.data }, { on := 20, ground := Ground.chain }, { on := 0, ground := Ground.phase }, { on := 1, ground := Ground.phase }, { on := 2, ground := Ground.phase }, { on := 3, ground := Ground.phase }, { on := 4, ground := Ground.phase }, { on := 5, ground := Ground.phase }, { on := 6, ground := Ground.phase }, { on := 7, ground := Ground.phase }, { on := 8, ground := Ground.phase }, { on := 9, ground := Ground.phase }, { on := 10, ground := Ground.phase }, { on := 11, ground := Ground.phase }, { on := 12, ground := Ground.phase }, { on := 13, ground := Ground.phase }, { on := 14, ground := Ground.phase }, { on := 15, ground := Ground.phase }, { on := 16, ground := Ground.phase }, { on := 17, ground := Ground.phase }, { on := 18, ground := Ground.phase }, { on := 19, ground := Ground.phase }, { on := 20, ground := Ground.phase }], guard := none }) rfl (fun K0 hK0 => ?_) AllReadyH.nil)
        go_simp
        refine hK0.out _ _ (⟨(World.cell?_setCell_far _ ⟨g, k, none⟩ _ _ hgb).trans q5.1, (World.cell?_setCell_far _ ⟨g, k, none⟩ _ _ hgb0).trans q5.2.1, (World.cell?_setCell_far _ ⟨g, k, none⟩ _ _ hgbw).trans q5.2.2⟩) (fun hHeld => ?_)
        clear hK0 K0
        try simp only [Act.put, List.setIfInBounds_toArray, List.set_cons_zero, List.set_cons_succ]
        refine wpAnyH_done (by kernel_rfl) ?_ _
        have HGF := Lib.hid (HGM.out _ _ _ hgrow ho5)
        clear ho5 hgrow hat hlt hf5 hc5 q5
        go_wp2
        go_meet
        exact HGF.out
      · go_simp
        refine hK0.out _ _ (HS8b.out) (fun hHeld => ?_)
        clear hK0 K0
        try simp only [Act.put, List.setIfInBounds_toArray, List.set_cons_zero, List.set_cons_succ]
        refine wpAnyH_ready (rs := [7]) (by kernel_rfl) (by simp) ?_
        refine (AllReadyH.cons (o := { dst := some 68, op := Op.load 50 (Operand.tmp 67), type := 50, pos := "law.go:176", after := #[{ on := 6, ground := Ground.data }], guard := none }) rfl (fun K0 hK0 => ?_) AllReadyH.nil)
        go_simp
        refine hK0.out _ _ (HS8b.out) (fun hHeld => ?_)
        clear hK0 K0
        try simp only [Act.put, List.setIfInBounds_toArray, List.set_cons_zero, List.set_cons_succ]
        refine wpAnyH_ready (rs := [20]) (by kernel_rfl) (by simp) ?_
        refine (AllReadyH.cons (o := { dst := some 81, op := Op.call { callee := Callee.builtin Builtin.append, args := #[Operand.tmp 68, Operand.tmp 80], argTypes := #[50, 50] }, type := 50, pos := "law.go:176", after := #[{ on := 7, ground := Ground.data }, { on := 19, ground := Ground.data }], guard := none }) rfl (fun K0 hK0 => ?_) AllReadyH.nil)
        refine step_append_lies (((W8.alloc (.cells #[.int .i64 (t : Int), .int .i64 3] 60)).alloc (.cells #[.string ⟨#[]⟩, .slice (some ⟨W8.heap.size, 0, none⟩) 1 1] 49)).drew) (by rfl) (.tmp 68) (.tmp 80) 50 (by rfl) l 49 i1 (.agg #[.string ⟨#[]⟩, .slice none 0 0]) 2 40 Tryd.underlying50 HJ.out HY0.out HY1.out HY2.out rfl (by decide) (.slice B L cap) L rc (by simp [Act.eval]) HOWN.out ⟨W8.heap.size + 1, 0, none⟩ 1 1 [.string ⟨#[]⟩, .slice (some ⟨W8.heap.size, 0, none⟩) 1 1] (by simp [Act.eval]) rfl (lies_at2 HNB2.out (by simp)) (two_cells rfl rfl) (by decide) (by unfold maxLen; omega) (by omega) (by simp; omega) (W8.heap.size + 2) (by simp) ?_
        intro g5 cap5 w5 ho5 hgrow hat hlt
        obtain ⟨hf5, hc5⟩ := HFZ.out _ hgrow
        have q5 := HKP.out _ hgrow
        refine hK0.out _ _ (q5) (fun hHeld => ?_)
        clear hK0 K0
        try simp only [Act.put, List.setIfInBounds_toArray, List.set_cons_zero, List.set_cons_succ]
        refine wpAnyH_take (i := 21) (oi := { dst := some 82, op := Op.indexAddr 29 (Operand.tmp 62) (Operand.tmp 63), type := 0, pos := "law.go:176", after := #[{ on := 1, ground := Ground.data }, { on := 2, ground := Ground.data }, { on := 0, ground := Ground.phase }, { on := 1, ground := Ground.phase }, { on := 2, ground := Ground.phase }, { on := 3, ground := Ground.phase }, { on := 4, ground := Ground.phase }, { on := 5, ground := Ground.phase }, { on := 6, ground := Ground.phase }, { on := 7, ground := Ground.phase }, { on := 8, ground := Ground.phase }, { on := 9, ground := Ground.phase }, { on := 10, ground := Ground.phase }, { on := 11, ground := Ground.phase }, { on := 12, ground := Ground.phase }, { on := 13, ground := Ground.phase }, { on := 14, ground := Ground.phase }, { on := 15, ground := Ground.phase }, { on := 16, ground := Ground.phase }, { on := 17, ground := Ground.phase }, { on := 18, ground := Ground.phase }, { on := 19, ground := Ground.phase }, { on := 20, ground := Ground.phase }], guard := none }) (v := Value.pointer (some ⟨g, k, none⟩)) rfl (by kernel_rfl) (by kernel_rfl) (by kernel_rfl) (fun _ _ _ h => h) (Or.inl ⟨by rfl, ?hy⟩) (by assumption) ?_
        case hy => (intro wz hSw; (try dsimp only at hSw); go_simp)
        simp only [Act.put, List.setIfInBounds_toArray, List.set_cons_zero, List.set_cons_succ]
        refine wpAnyH_ready (rs := [22]) (by kernel_rfl) (by simp) ?_
        refine (AllReadyH.cons (o := { dst := none, op := Op.store 50 (Operand.tmp 82) (Operand.tmp 81), type := 0, pos := "law.go:176", after := #[{ on := 21, ground := Ground.data }, { on := 20, ground := Ground.data }, { on := 20, ground := Ground.chain }, { on := 0, ground := Ground.phase }, { on := 1, ground := Ground.phase }, { on := 2, ground := Ground.phase }, { on := 3, ground := Ground.phase }, { on := 4, ground := Ground.phase }, { on := 5, ground := Ground.phase }, { on := 6, ground := Ground.phase }, { on := 7, ground := Ground.phase }, { on := 8, ground := Ground.phase }, { on := 9, ground := Ground.phase }, { on := 10, ground := Ground.phase }, { on := 11, ground := Ground.phase }, { on := 12, ground := Ground.phase }, { on := 13, ground := Ground.phase }, { on := 14, ground := Ground.phase }, { on := 15, ground := Ground.phase }, { on := 16, ground := Ground.phase }, { on := 17, ground := Ground.phase }, { on := 18, ground := Ground.phase }, { on := 19, ground := Ground.phase }, { on := 20, ground := Ground.phase }], guard := none }) rfl (fun K0 hK0 => ?_) AllReadyH.nil)
        go_simp
        refine hK0.out _ _ (⟨(World.cell?_setCell_far _ ⟨g, k, none⟩ _ _ hgb).trans q5.1, (World.cell?_setCell_far _ ⟨g, k, none⟩ _ _ hgb0).trans q5.2.1, (World.cell?_setCell_far _ ⟨g, k, none⟩ _ _ hgbw).trans q5.2.2⟩) (fun hHeld => ?_)
        clear hK0 K0
        try simp only [Act.put, List.setIfInBounds_toArray, List.set_cons_zero, List.set_cons_succ]
        refine wpAnyH_done (by kernel_rfl) ?_ _
        have HGF := Lib.hid (HGM.out _ _ _ hgrow ho5)
        clear ho5 hgrow hat hlt hf5 hc5 q5
        go_wp2
        go_meet
        exact HGF.out
  case rest =>
    have HGR := Lib.hid hcut
    have HSY := Lib.hid (grow_sml (t := (t : Int)) HFO.out hkn)
    have HRY := Lib.hid (grow_right (t := (t : Int)) HR.out hkn ⟨by omega, by omega⟩)
    obtain ⟨hsub, hlen⟩ := grow_reach (t := (t : Int)) HR.out hkn ⟨by omega, by omega⟩
    have HSUB := Lib.hid hsub
    have hl1 := reachO_len p
    have hl2 := reachO_len (growO p k (t : Int))
    have hl3 : (growO p k (t : Int)).chs.length = p.chs.length := by simp [growO, rowO]
    rw [hl3] at hl2
    have hl4 := HS.out.ch
    clear hcut hsub hl3 HGM HFZ HKP HS8 HS8a HS8b HNB2 HOWN hre hli hob hm5 hcur hcell HPI HX8 HB8 HM4 HM8 HJ HY0 HY1 HY2 x1 y1 hc8 hc0 hf8 HLL hL1 hgA
    clear hgb hgb' hgb0 hgb0' hgbw hgbw' eK eW eT eT2 eT3 hx hx255 hx0
    go_upto_region 9 with fail
    have lk := HGR.out.drew
    clear HGR
    refine wp_region_held_drew (S := (fun w' : World => w'.cell? ⟨b5, 0, none⟩ = some (.int .i64 p.init) ∧ w'.cell? ⟨b5, 1, none⟩ = some (.slice vx.A p.chs.length vx.a) ∧ w'.cell? ⟨b5, 2, none⟩ = some (.slice vx.B p.nms.length vx.b) ∧ w'.cell? ⟨b5, 3, none⟩ = some (.slice vx.C p.hds.length vx.c) ∧ w'.cell? ⟨b8, 0, none⟩ = some (.int .i64 p.init) ∧ w'.cell? ⟨b8, 1, none⟩ = some (.slice vy.A p.chs.length vy.a) ∧ w'.cell? ⟨b8, 2, none⟩ = some (.slice vy.B p.nms.length vy.b) ∧ w'.cell? ⟨b8, 3, none⟩ = some (.slice vy.C p.hds.length vy.c))) (by kernel_rfl) (⟨lk.tl.bx.cells4.1, lk.tl.bx.cells4.2.1, lk.tl.bx.cells4.2.2.1, lk.tl.bx.cells4.2.2.2, lk.bY.cells4.1, lk.bY.cells4.2.1, lk.bY.cells4.2.2.1, lk.bY.cells4.2.2.2⟩) (fun hHeld => ?_)
    refine wpAnyH_take (i := 0) (oi := { dst := some 83, op := Op.load 31 (Operand.tmp 7), type := 31, pos := "law.go:177", after := #[], guard := none }) (v := (Value.agg #[.int .i64 p.init, .slice vx.A p.chs.length vx.a, .slice vx.B p.nms.length vx.b, .slice vx.C p.hds.length vx.c])) rfl (by kernel_rfl) (by kernel_rfl) (by kernel_rfl) (fun _ _ _ h => h) (Or.inl ⟨by rfl, ?hy⟩) (by assumption) ?_
    case hy => (intro wz hSw; (try dsimp only at hSw); go_simp)
    simp only [Act.put, List.setIfInBounds_toArray, List.set_cons_zero, List.set_cons_succ]
    refine wpAnyH_take (i := 2) (oi := { dst := some 85, op := Op.load 31 (Operand.tmp 8), type := 31, pos := "law.go:177", after := #[], guard := none }) (v := (Value.agg #[.int .i64 p.init, .slice vy.A p.chs.length vy.a, .slice vy.B p.nms.length vy.b, .slice vy.C p.hds.length vy.c])) rfl (by kernel_rfl) (by kernel_rfl) (by kernel_rfl) (fun _ _ _ h => h) (Or.inl ⟨by rfl, ?hy⟩) (by assumption) ?_
    case hy => (intro wz hSw; (try dsimp only at hSw); go_simp)
    simp only [Act.put, List.setIfInBounds_toArray, List.set_cons_zero, List.set_cons_succ]
    refine wpAnyH_ready (rs := [1]) (by kernel_rfl) (by simp) ?_
    refine AllReadyH.cons (o := { dst := some 84, op := Op.call { callee := Callee.value (Operand.func 15), args := #[Operand.tmp 83], argTypes := #[31] }, type := 36, pos := "law.go:177", after := #[{ on := 0, ground := Ground.data }], guard := none }) rfl (fun K0 hK0 => ?_) AllReadyH.nil
    go_simp
    go_at_call 15
    with_reducible refine (lk.reachX HS.out).mono ?_
    rintro e wA ⟨A3, c3, rfl, lk2⟩
    replace lk := lk2
    clear lk2
    go_wp2_with fail
    refine hK0.out _ _ (⟨lk.tl.bx.cells4.1, lk.tl.bx.cells4.2.1, lk.tl.bx.cells4.2.2.1, lk.tl.bx.cells4.2.2.2, lk.bY.cells4.1, lk.bY.cells4.2.1, lk.bY.cells4.2.2.1, lk.bY.cells4.2.2.2⟩) (fun hHeld => ?_)
    clear hK0 K0
    try simp only [Act.put, List.setIfInBounds_toArray, List.set_cons_zero, List.set_cons_succ]
    refine wpAnyH_ready (rs := [3]) (by kernel_rfl) (by simp) ?_
    refine AllReadyH.cons (o := { dst := some 86, op := Op.call { callee := Callee.value (Operand.func 15), args := #[Operand.tmp 85], argTypes := #[31] }, type := 36, pos := "law.go:177", after := #[{ on := 2, ground := Ground.data }, { on := 1, ground := Ground.chain }], guard := none }) rfl (fun K0 hK0 => ?_) AllReadyH.nil
    go_simp
    go_at_call 15
    with_reducible refine (lk.reachY HSY.out).mono ?_
    rintro e wA ⟨A4, c4, rfl, lk2⟩
    replace lk := lk2
    clear lk2
    go_wp2_with fail
    refine hK0.out _ _ (⟨lk.tl.bx.cells4.1, lk.tl.bx.cells4.2.1, lk.tl.bx.cells4.2.2.1, lk.tl.bx.cells4.2.2.2, lk.bY.cells4.1, lk.bY.cells4.2.1, lk.bY.cells4.2.2.1, lk.bY.cells4.2.2.2⟩) (fun hHeld => ?_)
    clear hK0 K0
    try simp only [Act.put, List.setIfInBounds_toArray, List.set_cons_zero, List.set_cons_succ]
    refine wpAnyH_take (i := 4) (oi := { dst := some 10, op := Op.assign (Operand.tmp 84), type := 36, pos := "law.go:177", after := #[{ on := 1, ground := Ground.data }, { on := 3, ground := Ground.chain }, { on := 0, ground := Ground.phase }, { on := 1, ground := Ground.phase }, { on := 2, ground := Ground.textOnly Departure.lateStores }, { on := 3, ground := Ground.textOnly Departure.lateStoresUnsure }], guard := none }) (v := Value.slice A3 (reachO p).length c3) rfl (by kernel_rfl) (by kernel_rfl) (by kernel_rfl) (fun _ _ _ h => h) (Or.inl ⟨by rfl, ?hy⟩) (by assumption) ?_
    case hy => (intro wz hSw; (try dsimp only at hSw); go_simp)
    simp only [Act.put, List.setIfInBounds_toArray, List.set_cons_zero, List.set_cons_succ]
    refine wpAnyH_take (i := 5) (oi := { dst := some 11, op := Op.assign (Operand.tmp 86), type := 36, pos := "law.go:177", after := #[{ on := 3, ground := Ground.data }, { on := 4, ground := Ground.chain }, { on := 0, ground := Ground.phase }, { on := 1, ground := Ground.phase }, { on := 2, ground := Ground.phase }, { on := 3, ground := Ground.phase }, { on := 4, ground := Ground.phase }], guard := none }) (v := Value.slice A4 (reachO (growO p k (t : Int))).length c4) rfl (by kernel_rfl) (by kernel_rfl) (by kernel_rfl) (fun _ _ _ h => h) (Or.inl ⟨by rfl, ?hy⟩) (by assumption) ?_
    case hy => (intro wz hSw; (try dsimp only at hSw); go_simp)
    simp only [Act.put, List.setIfInBounds_toArray, List.set_cons_zero, List.set_cons_succ]
    refine wpAnyH_done (by kernel_rfl) ?_ _
    obtain ⟨y0, y1, y2, y3⟩ := lk.bY.cells4
    go_wp2_with fail
    with_reducible refine (lk.check HSY.out HRY.out).mono ?_
    rintro e wc2 ⟨rfl, lk2⟩
    have LK := Lib.hid lk2
    clear lk lk2 y0 y1 y2 y3
    have HIA := Lib.hid (show ISl wc2 A3 (reachO p) from LK.out.tl.il (A3, reachO p) (by simp))
    have HIB := Lib.hid (show ISl wc2 A4 (reachO (growO p k (t : Int))) from LK.out.tl.il (A4, reachO (growO p k (t : Int))) (by simp))
    generalize reachO (growO p k (t : Int)) = rb at *
    generalize reachO p = ra at *
    obtain ⟨na, hna⟩ : ∃ na, na = ra.length := ⟨_, rfl⟩
    obtain ⟨nb, hnb⟩ : ∃ nb, nb = rb.length := ⟨_, rfl⟩
    have HNA := Lib.hid hna
    have HNB := Lib.hid hnb
    rw [← hna] at hl1
    rw [← hnb] at hl2
    rw [← hna, ← hnb] at hlen ⊢
    clear hna hnb
    have d5 : decide (nb < na) = false := by simp; omega
    have d5' : decide ((nb : Int) < (na : Int)) = false := by simp; omega
    clear hHeld
    go_wp2
    go_loopw [12] (fun i W => RdR na wc2 i W) (fun i _ => na - (intOf i).toNat)
    case atStart => exact ⟨0, rfl, Nat.zero_le _, Below.refl _ _⟩
    case round =>
      clear d5 d5' hk0 hk1 hT0 hT1 h1 h2 h3 h4
      obtain ⟨i, rfl, hil, hb⟩ := hrel
      by_cases hia : i < na
      · have e3 : decide (i < na) = true := by simp; omega
        have ki : i < ra.length := by rw [← HNA.out]; exact hia
        obtain ⟨g5, o5, rfl, t0⟩ := HIA.out i ki
        have HIN := Lib.hid (show ra[i] ∈ rb from HSUB.out _ (List.getElem_mem ki))
        obtain ⟨tz, htz⟩ : ∃ z, z = ra[i] := ⟨_, rfl⟩
        rw [← htz] at t0 HIN
        have T0 := Lib.hid t0
        have HZA := Lib.hid HIA
        clear HIA htz t0 hil
        have HBt := Lib.hid hb
        clear hb
        go_wp2
        go_loopw [13, 14] (fun b j W => FnR rb tz wc2 b j W) (fun _ j _ => nb - (intOf j).toNat)
        case atStart => exact ⟨0, rfl, Nat.zero_le _, by simp, HBt.out⟩
        case round =>
          clear HBt
          obtain ⟨j, rfl, hjl, rfl, hb⟩ := hrel
          have HBt := Lib.hid hb
          have t0 := cell_blw HBt.out T0.out
          clear hb
          by_cases hjT : j < nb
          · have e5 : decide (j < nb) = true := by simp; omega
            have kj : j < rb.length := by rw [← HNB.out]; exact hjT
            obtain ⟨g6, o6, rfl, u0⟩ := HIB.out j kj
            have HZI := Lib.hid HIB
            clear HIB hjl
            replace u0 := cell_blw HBt.out u0
            by_cases hf : tz ∈ rb.take j
            · have HF2 := Lib.hid (show decide (tz ∈ rb.take j) = true from decide_eq_true hf)
              have HF3 := Lib.hid (show decide (tz ∈ rb.take (j + 1)) = true from decide_eq_true (by rw [take_snoc kj, List.mem_append]; exact .inl hf))
              rw [HF2.out]
              clear hf
              go_wp2_with fail
              go_quiet (fail)
              go_wp2
              go_roundw
              case rel => exact ⟨j + 1, by go_num, by rw [← HNB.out]; omega, by rw [HF3.out], below_drewN HBt.out _⟩
              case measure => simp [intOf]; omega
            · have HF2 := Lib.hid (show decide (tz ∈ rb.take j) = false from decide_eq_false hf)
              rw [HF2.out]
              have HNF := Lib.hid hf
              clear hf
              by_cases he : rb[j] = tz
              · have q : (tz == tz) = true := by simp
                have HF3 := Lib.hid (show decide (tz ∈ rb.take (j + 1)) = true from decide_eq_true (by rw [take_snoc kj, List.mem_append, List.mem_singleton]; exact .inr he.symm))
                rw [he] at u0
                clear he
                go_wp2_with fail
                go_quiet (fail)
                go_wp2
                go_roundw
                case rel => exact ⟨j + 1, by go_num, by rw [← HNB.out]; omega, by rw [HF3.out], below_drewN HBt.out _⟩
                case measure => simp [intOf]; omega
              · have HF3 := Lib.hid (show decide (tz ∈ rb.take (j + 1)) = false from decide_eq_false (by rw [take_snoc kj, List.mem_append, List.mem_singleton]; exact fun h => h.elim HNF.out (fun h => he h.symm)))
                obtain ⟨x5, hx5⟩ : ∃ x5, x5 = rb[j] := ⟨_, rfl⟩
                rw [← hx5] at u0 he
                have q : (tz == x5) = false := by rw [beq_eq_false_iff_ne]; exact fun h => he h.symm
                clear hx5 he
                go_wp2_with fail
                go_quiet (fail)
                go_wp2
                go_roundw
                case rel => exact ⟨j + 1, by go_num, by rw [← HNB.out]; omega, by rw [HF3.out], below_drewN HBt.out _⟩
                case measure => simp [intOf]; omega
          · have e5 : decide (j < nb) = false := by simp; omega
            have HF2 := Lib.hid (show decide (tz ∈ rb.take j) = true from decide_eq_true (by rw [List.take_of_length_le (by rw [← HNB.out]; omega)]; exact HIN.out))
            rw [HF2.out]
            go_wp2
            go_roundw
            case rel => exact ⟨i + 1, by go_num, hia, HBt.out⟩
            case measure => simp [intOf]; omega
      · have e3 : decide (i < na) = false := by simp; omega
        have LK2 := Lib.hid (LK.out.below hb)
        clear hb hil hia LK HIA HIB HSUB HNA HNB
        go_upto_region 22 with fail
        have hm2 : 2 ≤ p.nms.length := by omega
        obtain ⟨gB, oB, hvB, nm0⟩ := HP.out.nm 0 (by omega)
        obtain ⟨gB2, oB2, hvB2, nm1⟩ := HP.out.nm 1 (by omega)
        have hee := hvB.symm.trans hvB2
        injection hee with hee
        injection hee with e1 e2
        subst e1 e2
        clear hvB2
        obtain ⟨sa, sb, rr, hnm⟩ : ∃ a b r, p.nms = a :: b :: r := by
          have : ∀ l : List ByteArray, 2 ≤ l.length → ∃ a b r, l = a :: b :: r := fun l h => by
            match l, h with
            | a :: b :: r, _ => exact ⟨a, b, r, rfl⟩
          exact this _ hm2
        have ha : p.nms[0] = sa := by simp [hnm]
        have hb' : p.nms[1] = sb := by simp [hnm]
        rw [ha, Nat.add_zero] at nm0
        rw [hb'] at nm1
        obtain ⟨he1, he2, hl1', hl2'⟩ := two_let HR.out hnm
        have HE1 := Lib.hid he1
        have HE2 := Lib.hid he2
        have HKS := Lib.hid (show ∀ (L : List (Option Addr × List Int)) (W : World), GrM p v vx vy k (t : Int) w w.heap.size b5 b8 L W → (fun w' : World => w'.cell? ⟨b5, 0, none⟩ = some (.int .i64 p.init) ∧ w'.cell? ⟨b5, 1, none⟩ = some (.slice vx.A p.chs.length vx.a) ∧ w'.cell? ⟨b5, 2, none⟩ = some (.slice vx.B p.nms.length vx.b) ∧ w'.cell? ⟨b5, 3, none⟩ = some (.slice vx.C p.hds.length vx.c) ∧ w'.cell? ⟨w.heap.size, 2, none⟩ = some (.slice (some ⟨gB, oB, none⟩) p.nms.length v.b) ∧ w'.cell? ⟨gB, oB, none⟩ = some (.string sa) ∧ w'.cell? ⟨gB, oB + 1, none⟩ = some (.string sb)) W from fun L W lk =>
          ⟨lk.tl.bx.cells4.1, lk.tl.bx.cells4.2.1, lk.tl.bx.cells4.2.2.1, lk.tl.bx.cells4.2.2.2, (by have h := lk.tl.bm.cells4.2.2.1; rw [hvB] at h; exact h), cell_blw lk.tl.b nm0, cell_blw lk.tl.b nm1⟩)
        obtain ⟨l1, hl1⟩ : ∃ l1, l1 = p.hds.map (sO [0, 1]) := ⟨_, rfl⟩
        obtain ⟨l2, hl2⟩ : ∃ l2, l2 = p.hds.map (sO [1, 0]) := ⟨_, rfl⟩
        have HBIT := Lib.hid (show ∀ i (h1 : i < l1.length) (h2 : i < l2.length), ∃ x y : Int, (x = 0 ∨ x = 1) ∧ (y = 0 ∨ y = 1) ∧ l1[i] = x + 2 * y ∧ l2[i] = y + 2 * x from by
          subst hl1 hl2
          intro i h1 h2
          have hi : i < p.hds.length := by simpa using h1
          have := two_from0 (HR.out.2.2.2.2.2.2 _ (List.getElem_mem hi))
          simpa using this)
        have hlen1 : l1.length = p.hds.length := by rw [hl1]; simp
        have hlen2 : l2.length = p.hds.length := by rw [hl2]; simp
        have HM1 := Lib.hid hlen1
        have HM2 := Lib.hid hlen2
        clear hlen1 hlen2
        rw [← hl1] at hl1'
        rw [← hl2] at hl2'
        have HL1 := Lib.hid hl1'
        have HL2 := Lib.hid hl2'
        have hmI : (1 : Int) < (p.nms.length : Int) := by omega
        have hmI0 : (0 : Int) < (p.nms.length : Int) := by omega
        have hmN : 1 < p.nms.length := by omega
        have hmN0 : 0 < p.nms.length := by omega
        clear he1 he2 hl1' hl2' hl1 hl2 ha hb' hnm hvB nm0 nm1
        refine wp_region_held_drew (S := (fun w' : World => w'.cell? ⟨b5, 0, none⟩ = some (.int .i64 p.init) ∧ w'.cell? ⟨b5, 1, none⟩ = some (.slice vx.A p.chs.length vx.a) ∧ w'.cell? ⟨b5, 2, none⟩ = some (.slice vx.B p.nms.length vx.b) ∧ w'.cell? ⟨b5, 3, none⟩ = some (.slice vx.C p.hds.length vx.c) ∧ w'.cell? ⟨w.heap.size, 2, none⟩ = some (.slice (some ⟨gB, oB, none⟩) p.nms.length v.b) ∧ w'.cell? ⟨gB, oB, none⟩ = some (.string sa) ∧ w'.cell? ⟨gB, oB + 1, none⟩ = some (.string sb))) (by kernel_rfl) (HKS.out _ _ LK2.out.drew) (fun hHeld => ?_)
        refine wpAnyH_take (i := 0) (oi := { dst := some 124, op := Op.load 31 (Operand.tmp 7), type := 31, pos := "law.go:190", after := #[], guard := none }) (v := (Value.agg #[.int .i64 p.init, .slice vx.A p.chs.length vx.a, .slice vx.B p.nms.length vx.b, .slice vx.C p.hds.length vx.c])) rfl (by kernel_rfl) (by kernel_rfl) (by kernel_rfl) (fun _ _ _ h => h) (Or.inl ⟨by rfl, ?hy⟩) (by assumption) ?_
        case hy => (intro wz hSw; (try dsimp only at hSw); go_simp)
        simp only [Act.put, List.setIfInBounds_toArray, List.set_cons_zero, List.set_cons_succ]
        refine wpAnyH_take (i := 1) (oi := { dst := some 125, op := Op.fieldAddr 26 (Operand.tmp 3) 2, type := 0, pos := "law.go:190", after := #[], guard := none }) (v := Value.pointer (some ⟨w.heap.size, 2, none⟩)) rfl (by kernel_rfl) (by kernel_rfl) (by kernel_rfl) (fun _ _ _ h => h) (Or.inl ⟨by rfl, ?hy⟩) (by assumption) ?_
        case hy => (intro wz hSw; (try dsimp only at hSw); go_simp)
        simp only [Act.put, List.setIfInBounds_toArray, List.set_cons_zero, List.set_cons_succ]
        refine wpAnyH_take (i := 2) (oi := { dst := some 126, op := Op.load 23 (Operand.tmp 125), type := 23, pos := "law.go:190", after := #[{ on := 1, ground := Ground.data }], guard := none }) (v := Value.slice (some ⟨gB, oB, none⟩) p.nms.length v.b) rfl (by kernel_rfl) (by kernel_rfl) (by kernel_rfl) (fun _ _ _ h => h) (Or.inl ⟨by rfl, ?hy⟩) (by assumption) ?_
        case hy => (intro wz hSw; (try dsimp only at hSw); go_simp)
        simp only [Act.put, List.setIfInBounds_toArray, List.set_cons_zero, List.set_cons_succ]
        refine wpAnyH_take (i := 3) (oi := { dst := some 127, op := Op.indexAddr 23 (Operand.tmp 126) (Operand.const (Value.int IntKind.i64 0)), type := 0, pos := "law.go:190", after := #[{ on := 2, ground := Ground.data }], guard := none }) (v := Value.pointer (some ⟨gB, oB, none⟩)) rfl (by kernel_rfl) (by kernel_rfl) (by kernel_rfl) (fun _ _ _ h => h) (Or.inl ⟨by rfl, ?hy⟩) (by assumption) ?_
        case hy => (intro wz hSw; (try dsimp only at hSw); go_simp)
        simp only [Act.put, List.setIfInBounds_toArray, List.set_cons_zero, List.set_cons_succ]
        refine wpAnyH_take (i := 4) (oi := { dst := some 128, op := Op.load 9 (Operand.tmp 127), type := 9, pos := "law.go:190", after := #[{ on := 3, ground := Ground.data }], guard := none }) (v := Value.string sa) rfl (by kernel_rfl) (by kernel_rfl) (by kernel_rfl) (fun _ _ _ h => h) (Or.inl ⟨by rfl, ?hy⟩) (by assumption) ?_
        case hy => (intro wz hSw; (try dsimp only at hSw); go_simp)
        simp only [Act.put, List.setIfInBounds_toArray, List.set_cons_zero, List.set_cons_succ]
        refine wpAnyH_take (i := 5) (oi := { dst := some 129, op := Op.fieldAddr 26 (Operand.tmp 3) 2, type := 0, pos := "law.go:190", after := #[], guard := none }) (v := Value.pointer (some ⟨w.heap.size, 2, none⟩)) rfl (by kernel_rfl) (by kernel_rfl) (by kernel_rfl) (fun _ _ _ h => h) (Or.inl ⟨by rfl, ?hy⟩) (by assumption) ?_
        case hy => (intro wz hSw; (try dsimp only at hSw); go_simp)
        simp only [Act.put, List.setIfInBounds_toArray, List.set_cons_zero, List.set_cons_succ]
        refine wpAnyH_take (i := 6) (oi := { dst := some 130, op := Op.load 23 (Operand.tmp 129), type := 23, pos := "law.go:190", after := #[{ on := 5, ground := Ground.data }], guard := none }) (v := Value.slice (some ⟨gB, oB, none⟩) p.nms.length v.b) rfl (by kernel_rfl) (by kernel_rfl) (by kernel_rfl) (fun _ _ _ h => h) (Or.inl ⟨by rfl, ?hy⟩) (by assumption) ?_
        case hy => (intro wz hSw; (try dsimp only at hSw); go_simp)
        simp only [Act.put, List.setIfInBounds_toArray, List.set_cons_zero, List.set_cons_succ]
        refine wpAnyH_take (i := 7) (oi := { dst := some 131, op := Op.indexAddr 23 (Operand.tmp 130) (Operand.const (Value.int IntKind.i64 1)), type := 0, pos := "law.go:190", after := #[{ on := 6, ground := Ground.data }], guard := none }) (v := Value.pointer (some ⟨gB, oB + 1, none⟩)) rfl (by kernel_rfl) (by kernel_rfl) (by kernel_rfl) (fun _ _ _ h => h) (Or.inl ⟨by rfl, ?hy⟩) (by assumption) ?_
        case hy => (intro wz hSw; (try dsimp only at hSw); go_simp)
        simp only [Act.put, List.setIfInBounds_toArray, List.set_cons_zero, List.set_cons_succ]
        refine wpAnyH_take (i := 8) (oi := { dst := some 132, op := Op.load 9 (Operand.tmp 131), type := 9, pos := "law.go:190", after := #[{ on := 7, ground := Ground.data }], guard := none }) (v := Value.string sb) rfl (by kernel_rfl) (by kernel_rfl) (by kernel_rfl) (fun _ _ _ h => h) (Or.inl ⟨by rfl, ?hy⟩) (by assumption) ?_
        case hy => (intro wz hSw; (try dsimp only at hSw); go_simp)
        simp only [Act.put, List.setIfInBounds_toArray, List.set_cons_zero, List.set_cons_succ]
        refine wpAnyH_ready (rs := [9]) (by kernel_rfl) (by simp) ?_
        refine AllReadyH.cons (o := { dst := some 133, op := Op.buildSlice 23 2 #[(0, Operand.tmp 128), (1, Operand.tmp 132)], type := 23, pos := "law.go:190", after := #[{ on := 4, ground := Ground.data }, { on := 8, ground := Ground.data }], guard := none }) rfl (fun K0 hK0 => ?_) AllReadyH.nil
        go_simp
        have lk := (LK2.out.below (below_alloc wr (.cells #[.string sa, .string sb] 9))).drew
        have hbn := (Bx.new wr 9 [.string sa, .string sb]).below ((Below.refl _ _).drew)
        refine hK0.out _ _ (HKS.out _ _ lk) (fun hHeld => ?_)
        clear hK0 K0
        try simp only [Act.put, List.setIfInBounds_toArray, List.set_cons_zero, List.set_cons_succ]
        refine wpAnyH_ready (rs := [10]) (by kernel_rfl) (by simp) ?_
        refine AllReadyH.cons (o := { dst := some 134, op := Op.call { callee := Callee.value (Operand.func 10), args := #[Operand.tmp 124, Operand.tmp 133], argTypes := #[31, 23] }, type := 37, pos := "law.go:190", after := #[{ on := 0, ground := Ground.data }, { on := 9, ground := Ground.data }], guard := none }) rfl (fun K0 hK0 => ?_) AllReadyH.nil
        go_simp
        go_at_call 10
        with_reducible refine (lk.letters HS.out hbn HE1.out HL1.out).mono ?_
        rintro e wB1 ⟨A5, c5, rfl, lk2⟩
        clear lk hbn
        have lk := lk2
        clear lk2
        go_wp2_with fail
        refine hK0.out _ _ (HKS.out _ _ lk) (fun hHeld => ?_)
        clear hK0 K0
        try simp only [Act.put, List.setIfInBounds_toArray, List.set_cons_zero, List.set_cons_succ]
        refine wpAnyH_take (i := 11) (oi := { dst := some 123, op := Op.move (Operand.tmp 134), type := 37, pos := "law.go:190", after := #[{ on := 10, ground := Ground.data }], guard := none }) (v := Value.tuple #[.slice A5 l1.length c5, .nilIface]) rfl (by kernel_rfl) (by kernel_rfl) (by kernel_rfl) (fun _ _ _ h => h) (Or.inl ⟨by rfl, ?hy⟩) (by assumption) ?_
        case hy => (intro wz hSw; (try dsimp only at hSw); go_simp)
        simp only [Act.put, List.setIfInBounds_toArray, List.set_cons_zero, List.set_cons_succ]
        refine wpAnyH_take (i := 12) (oi := { dst := some 135, op := Op.extract (Operand.tmp 123) 0, type := 36, pos := "law.go:190", after := #[{ on := 11, ground := Ground.data }], guard := none }) (v := Value.slice A5 l1.length c5) rfl (by kernel_rfl) (by kernel_rfl) (by kernel_rfl) (fun _ _ _ h => h) (Or.inl ⟨by rfl, ?hy⟩) (by assumption) ?_
        case hy => (intro wz hSw; (try dsimp only at hSw); go_simp)
        simp only [Act.put, List.setIfInBounds_toArray, List.set_cons_zero, List.set_cons_succ]
        refine wpAnyH_take (i := 13) (oi := { dst := some 136, op := Op.extract (Operand.tmp 123) 1, type := 34, pos := "law.go:190", after := #[{ on := 11, ground := Ground.data }, { on := 14, ground := Ground.gcOnly Departure.lateStores }], guard := none }) (v := Value.nilIface) rfl (by kernel_rfl) (by kernel_rfl) (by kernel_rfl) (fun _ _ _ h => h) (Or.inl ⟨by rfl, ?hy⟩) (by assumption) ?_
        case hy => (intro wz hSw; (try dsimp only at hSw); go_simp)
        simp only [Act.put, List.setIfInBounds_toArray, List.set_cons_zero, List.set_cons_succ]
        refine wpAnyH_take (i := 14) (oi := { dst := some 15, op := Op.assign (Operand.tmp 135), type := 36, pos := "law.go:190", after := #[{ on := 12, ground := Ground.data }, { on := 10, ground := Ground.chain }, { on := 0, ground := Ground.phase }, { on := 1, ground := Ground.phase }, { on := 2, ground := Ground.phase }, { on := 3, ground := Ground.phase }, { on := 4, ground := Ground.phase }, { on := 5, ground := Ground.phase }, { on := 6, ground := Ground.phase }, { on := 7, ground := Ground.phase }, { on := 8, ground := Ground.phase }, { on := 9, ground := Ground.phase }, { on := 10, ground := Ground.phase }, { on := 11, ground := Ground.phase }, { on := 12, ground := Ground.phase }, { on := 13, ground := Ground.textOnly Departure.lateStores }], guard := none }) (v := Value.slice A5 l1.length c5) rfl (by kernel_rfl) (by kernel_rfl) (by kernel_rfl) (fun _ _ _ h => h) (Or.inl ⟨by rfl, ?hy⟩) (by assumption) ?_
        case hy => (intro wz hSw; (try dsimp only at hSw); go_simp)
        simp only [Act.put, List.setIfInBounds_toArray, List.set_cons_zero, List.set_cons_succ]
        refine wpAnyH_take (i := 15) (oi := { dst := some 16, op := Op.assign (Operand.tmp 136), type := 34, pos := "law.go:190", after := #[{ on := 13, ground := Ground.data }, { on := 14, ground := Ground.chain }, { on := 0, ground := Ground.phase }, { on := 1, ground := Ground.phase }, { on := 2, ground := Ground.phase }, { on := 3, ground := Ground.phase }, { on := 4, ground := Ground.phase }, { on := 5, ground := Ground.phase }, { on := 6, ground := Ground.phase }, { on := 7, ground := Ground.phase }, { on := 8, ground := Ground.phase }, { on := 9, ground := Ground.phase }, { on := 10, ground := Ground.phase }, { on := 11, ground := Ground.phase }, { on := 12, ground := Ground.phase }, { on := 13, ground := Ground.phase }, { on := 14, ground := Ground.phase }], guard := none }) (v := Value.nilIface) rfl (by kernel_rfl) (by kernel_rfl) (by kernel_rfl) (fun _ _ _ h => h) (Or.inl ⟨by rfl, ?hy⟩) (by assumption) ?_
        case hy => (intro wz hSw; (try dsimp only at hSw); go_simp)
        simp only [Act.put, List.setIfInBounds_toArray, List.set_cons_zero, List.set_cons_succ]
        refine wpAnyH_done (by kernel_rfl) ?_ _
        have LK3 := Lib.hid lk
        clear lk LK2
        have LK2 := LK3
        clear LK3
        go_wp2_with fail
        refine wp_region_held_drew (S := (fun w' : World => w'.cell? ⟨b5, 0, none⟩ = some (.int .i64 p.init) ∧ w'.cell? ⟨b5, 1, none⟩ = some (.slice vx.A p.chs.length vx.a) ∧ w'.cell? ⟨b5, 2, none⟩ = some (.slice vx.B p.nms.length vx.b) ∧ w'.cell? ⟨b5, 3, none⟩ = some (.slice vx.C p.hds.length vx.c) ∧ w'.cell? ⟨w.heap.size, 2, none⟩ = some (.slice (some ⟨gB, oB, none⟩) p.nms.length v.b) ∧ w'.cell? ⟨gB, oB, none⟩ = some (.string sa) ∧ w'.cell? ⟨gB, oB + 1, none⟩ = some (.string sb))) (by kernel_rfl) (HKS.out _ _ LK2.out.drew) (fun hHeld => ?_)
        refine wpAnyH_take (i := 0) (oi := { dst := some 138, op := Op.load 31 (Operand.tmp 7), type := 31, pos := "law.go:191", after := #[], guard := none }) (v := (Value.agg #[.int .i64 p.init, .slice vx.A p.chs.length vx.a, .slice vx.B p.nms.length vx.b, .slice vx.C p.hds.length vx.c])) rfl (by kernel_rfl) (by kernel_rfl) (by kernel_rfl) (fun _ _ _ h => h) (Or.inl ⟨by rfl, ?hy⟩) (by assumption) ?_
        case hy => (intro wz hSw; (try dsimp only at hSw); go_simp)
        simp only [Act.put, List.setIfInBounds_toArray, List.set_cons_zero, List.set_cons_succ]
        refine wpAnyH_take (i := 1) (oi := { dst := some 139, op := Op.fieldAddr 26 (Operand.tmp 3) 2, type := 0, pos := "law.go:191", after := #[], guard := none }) (v := Value.pointer (some ⟨w.heap.size, 2, none⟩)) rfl (by kernel_rfl) (by kernel_rfl) (by kernel_rfl) (fun _ _ _ h => h) (Or.inl ⟨by rfl, ?hy⟩) (by assumption) ?_
        case hy => (intro wz hSw; (try dsimp only at hSw); go_simp)
        simp only [Act.put, List.setIfInBounds_toArray, List.set_cons_zero, List.set_cons_succ]
        refine wpAnyH_take (i := 2) (oi := { dst := some 140, op := Op.load 23 (Operand.tmp 139), type := 23, pos := "law.go:191", after := #[{ on := 1, ground := Ground.data }], guard := none }) (v := Value.slice (some ⟨gB, oB, none⟩) p.nms.length v.b) rfl (by kernel_rfl) (by kernel_rfl) (by kernel_rfl) (fun _ _ _ h => h) (Or.inl ⟨by rfl, ?hy⟩) (by assumption) ?_
        case hy => (intro wz hSw; (try dsimp only at hSw); go_simp)
        simp only [Act.put, List.setIfInBounds_toArray, List.set_cons_zero, List.set_cons_succ]
        refine wpAnyH_take (i := 3) (oi := { dst := some 141, op := Op.indexAddr 23 (Operand.tmp 140) (Operand.const (Value.int IntKind.i64 1)), type := 0, pos := "law.go:191", after := #[{ on := 2, ground := Ground.data }], guard := none }) (v := Value.pointer (some ⟨gB, oB + 1, none⟩)) rfl (by kernel_rfl) (by kernel_rfl) (by kernel_rfl) (fun _ _ _ h => h) (Or.inl ⟨by rfl, ?hy⟩) (by assumption) ?_
        case hy => (intro wz hSw; (try dsimp only at hSw); go_simp)
        simp only [Act.put, List.setIfInBounds_toArray, List.set_cons_zero, List.set_cons_succ]
        refine wpAnyH_take (i := 4) (oi := { dst := some 142, op := Op.load 9 (Operand.tmp 141), type := 9, pos := "law.go:191", after := #[{ on := 3, ground := Ground.data }], guard := none }) (v := Value.string sb) rfl (by kernel_rfl) (by kernel_rfl) (by kernel_rfl) (fun _ _ _ h => h) (Or.inl ⟨by rfl, ?hy⟩) (by assumption) ?_
        case hy => (intro wz hSw; (try dsimp only at hSw); go_simp)
        simp only [Act.put, List.setIfInBounds_toArray, List.set_cons_zero, List.set_cons_succ]
        refine wpAnyH_take (i := 5) (oi := { dst := some 143, op := Op.fieldAddr 26 (Operand.tmp 3) 2, type := 0, pos := "law.go:191", after := #[], guard := none }) (v := Value.pointer (some ⟨w.heap.size, 2, none⟩)) rfl (by kernel_rfl) (by kernel_rfl) (by kernel_rfl) (fun _ _ _ h => h) (Or.inl ⟨by rfl, ?hy⟩) (by assumption) ?_
        case hy => (intro wz hSw; (try dsimp only at hSw); go_simp)
        simp only [Act.put, List.setIfInBounds_toArray, List.set_cons_zero, List.set_cons_succ]
        refine wpAnyH_take (i := 6) (oi := { dst := some 144, op := Op.load 23 (Operand.tmp 143), type := 23, pos := "law.go:191", after := #[{ on := 5, ground := Ground.data }], guard := none }) (v := Value.slice (some ⟨gB, oB, none⟩) p.nms.length v.b) rfl (by kernel_rfl) (by kernel_rfl) (by kernel_rfl) (fun _ _ _ h => h) (Or.inl ⟨by rfl, ?hy⟩) (by assumption) ?_
        case hy => (intro wz hSw; (try dsimp only at hSw); go_simp)
        simp only [Act.put, List.setIfInBounds_toArray, List.set_cons_zero, List.set_cons_succ]
        refine wpAnyH_take (i := 7) (oi := { dst := some 145, op := Op.indexAddr 23 (Operand.tmp 144) (Operand.const (Value.int IntKind.i64 0)), type := 0, pos := "law.go:191", after := #[{ on := 6, ground := Ground.data }], guard := none }) (v := Value.pointer (some ⟨gB, oB, none⟩)) rfl (by kernel_rfl) (by kernel_rfl) (by kernel_rfl) (fun _ _ _ h => h) (Or.inl ⟨by rfl, ?hy⟩) (by assumption) ?_
        case hy => (intro wz hSw; (try dsimp only at hSw); go_simp)
        simp only [Act.put, List.setIfInBounds_toArray, List.set_cons_zero, List.set_cons_succ]
        refine wpAnyH_take (i := 8) (oi := { dst := some 146, op := Op.load 9 (Operand.tmp 145), type := 9, pos := "law.go:191", after := #[{ on := 7, ground := Ground.data }], guard := none }) (v := Value.string sa) rfl (by kernel_rfl) (by kernel_rfl) (by kernel_rfl) (fun _ _ _ h => h) (Or.inl ⟨by rfl, ?hy⟩) (by assumption) ?_
        case hy => (intro wz hSw; (try dsimp only at hSw); go_simp)
        simp only [Act.put, List.setIfInBounds_toArray, List.set_cons_zero, List.set_cons_succ]
        refine wpAnyH_ready (rs := [9]) (by kernel_rfl) (by simp) ?_
        refine AllReadyH.cons (o := { dst := some 147, op := Op.buildSlice 23 2 #[(0, Operand.tmp 142), (1, Operand.tmp 146)], type := 23, pos := "law.go:191", after := #[{ on := 4, ground := Ground.data }, { on := 8, ground := Ground.data }], guard := none }) rfl (fun K0 hK0 => ?_) AllReadyH.nil
        go_simp
        have lk := (LK2.out.below (below_alloc wB1 (.cells #[.string sb, .string sa] 9))).drew
        have hbn := (Bx.new wB1 9 [.string sb, .string sa]).below ((Below.refl _ _).drew)
        refine hK0.out _ _ (HKS.out _ _ lk) (fun hHeld => ?_)
        clear hK0 K0
        try simp only [Act.put, List.setIfInBounds_toArray, List.set_cons_zero, List.set_cons_succ]
        refine wpAnyH_ready (rs := [10]) (by kernel_rfl) (by simp) ?_
        refine AllReadyH.cons (o := { dst := some 148, op := Op.call { callee := Callee.value (Operand.func 10), args := #[Operand.tmp 138, Operand.tmp 147], argTypes := #[31, 23] }, type := 37, pos := "law.go:191", after := #[{ on := 0, ground := Ground.data }, { on := 9, ground := Ground.data }], guard := none }) rfl (fun K0 hK0 => ?_) AllReadyH.nil
        go_simp
        go_at_call 10
        with_reducible refine (lk.letters HS.out hbn HE2.out HL2.out).mono ?_
        rintro e wB2 ⟨A6, c6, rfl, lk2⟩
        clear lk hbn
        have lk := lk2
        clear lk2
        go_wp2_with fail
        refine hK0.out _ _ (HKS.out _ _ lk) (fun hHeld => ?_)
        clear hK0 K0
        try simp only [Act.put, List.setIfInBounds_toArray, List.set_cons_zero, List.set_cons_succ]
        refine wpAnyH_take (i := 11) (oi := { dst := some 137, op := Op.move (Operand.tmp 148), type := 37, pos := "law.go:191", after := #[{ on := 10, ground := Ground.data }], guard := none }) (v := Value.tuple #[.slice A6 l2.length c6, .nilIface]) rfl (by kernel_rfl) (by kernel_rfl) (by kernel_rfl) (fun _ _ _ h => h) (Or.inl ⟨by rfl, ?hy⟩) (by assumption) ?_
        case hy => (intro wz hSw; (try dsimp only at hSw); go_simp)
        simp only [Act.put, List.setIfInBounds_toArray, List.set_cons_zero, List.set_cons_succ]
        refine wpAnyH_take (i := 12) (oi := { dst := some 149, op := Op.extract (Operand.tmp 137) 0, type := 36, pos := "law.go:191", after := #[{ on := 11, ground := Ground.data }], guard := none }) (v := Value.slice A6 l2.length c6) rfl (by kernel_rfl) (by kernel_rfl) (by kernel_rfl) (fun _ _ _ h => h) (Or.inl ⟨by rfl, ?hy⟩) (by assumption) ?_
        case hy => (intro wz hSw; (try dsimp only at hSw); go_simp)
        simp only [Act.put, List.setIfInBounds_toArray, List.set_cons_zero, List.set_cons_succ]
        refine wpAnyH_take (i := 13) (oi := { dst := some 150, op := Op.extract (Operand.tmp 137) 1, type := 34, pos := "law.go:191", after := #[{ on := 11, ground := Ground.data }, { on := 14, ground := Ground.gcOnly Departure.lateStores }], guard := none }) (v := Value.nilIface) rfl (by kernel_rfl) (by kernel_rfl) (by kernel_rfl) (fun _ _ _ h => h) (Or.inl ⟨by rfl, ?hy⟩) (by assumption) ?_
        case hy => (intro wz hSw; (try dsimp only at hSw); go_simp)
        simp only [Act.put, List.setIfInBounds_toArray, List.set_cons_zero, List.set_cons_succ]
        refine wpAnyH_take (i := 14) (oi := { dst := some 17, op := Op.assign (Operand.tmp 149), type := 36, pos := "law.go:191", after := #[{ on := 12, ground := Ground.data }, { on := 10, ground := Ground.chain }, { on := 0, ground := Ground.phase }, { on := 1, ground := Ground.phase }, { on := 2, ground := Ground.phase }, { on := 3, ground := Ground.phase }, { on := 4, ground := Ground.phase }, { on := 5, ground := Ground.phase }, { on := 6, ground := Ground.phase }, { on := 7, ground := Ground.phase }, { on := 8, ground := Ground.phase }, { on := 9, ground := Ground.phase }, { on := 10, ground := Ground.phase }, { on := 11, ground := Ground.phase }, { on := 12, ground := Ground.phase }, { on := 13, ground := Ground.textOnly Departure.lateStores }], guard := none }) (v := Value.slice A6 l2.length c6) rfl (by kernel_rfl) (by kernel_rfl) (by kernel_rfl) (fun _ _ _ h => h) (Or.inl ⟨by rfl, ?hy⟩) (by assumption) ?_
        case hy => (intro wz hSw; (try dsimp only at hSw); go_simp)
        simp only [Act.put, List.setIfInBounds_toArray, List.set_cons_zero, List.set_cons_succ]
        refine wpAnyH_take (i := 15) (oi := { dst := some 18, op := Op.assign (Operand.tmp 150), type := 34, pos := "law.go:191", after := #[{ on := 13, ground := Ground.data }, { on := 14, ground := Ground.chain }, { on := 0, ground := Ground.phase }, { on := 1, ground := Ground.phase }, { on := 2, ground := Ground.phase }, { on := 3, ground := Ground.phase }, { on := 4, ground := Ground.phase }, { on := 5, ground := Ground.phase }, { on := 6, ground := Ground.phase }, { on := 7, ground := Ground.phase }, { on := 8, ground := Ground.phase }, { on := 9, ground := Ground.phase }, { on := 10, ground := Ground.phase }, { on := 11, ground := Ground.phase }, { on := 12, ground := Ground.phase }, { on := 13, ground := Ground.phase }, { on := 14, ground := Ground.phase }], guard := none }) (v := Value.nilIface) rfl (by kernel_rfl) (by kernel_rfl) (by kernel_rfl) (fun _ _ _ h => h) (Or.inl ⟨by rfl, ?hy⟩) (by assumption) ?_
        case hy => (intro wz hSw; (try dsimp only at hSw); go_simp)
        simp only [Act.put, List.setIfInBounds_toArray, List.set_cons_zero, List.set_cons_succ]
        refine wpAnyH_done (by kernel_rfl) ?_ _
        obtain ⟨N, hN⟩ : ∃ N, N = p.hds.length := ⟨_, rfl⟩
        have HI1 := Lib.hid (lk.tl.il (A5, l1) (by simp))
        have HI2 := Lib.hid (lk.tl.il (A6, l2) (by simp))
        change Hid (ISl wB2 A5 l1) at HI1
        change Hid (ISl wB2 A6 l2) at HI2
        have HBF := Lib.hid lk.tl.b
        have hNN : N ≤ 1000000 := by rw [hN]; exact HS.out.hd
        have HN1 := Lib.hid (show l1.length = N by rw [HM1.out, hN])
        have HN2 := Lib.hid (show l2.length = N by rw [HM2.out, hN])
        rw [HN1.out, HN2.out]
        clear hN HM1 HM2 lk LK2 hHeld HKS
        go_wp2
        go_loopw [19] (fun i W => RdR N wB2 i W) (fun i _ => N - (intOf i).toNat)
        case atStart => exact ⟨0, rfl, Nat.zero_le _, Below.refl _ _⟩
        case round =>
          obtain ⟨i, rfl, hil, hb⟩ := hrel
          have HBt := Lib.hid hb
          clear hb
          by_cases hiN : i < N
          · have e3 : decide (i < N) = true := by simp; omega
            have k1 : i < l1.length := by rw [HN1.out]; exact hiN
            have k2 : i < l2.length := by rw [HN2.out]; exact hiN
            obtain ⟨g6, o6, rfl, t0⟩ := HI1.out i k1
            obtain ⟨g7, o7, rfl, u0⟩ := HI2.out i k2
            obtain ⟨x, y, hx, hy, e1, e2⟩ := HBIT.out i k1 k2
            rw [e1] at t0
            rw [e2] at u0
            replace t0 := cell_blw HBt.out t0
            replace u0 := cell_blw HBt.out u0
            clear e1 e2 HI1 HI2 hil k1 k2
            rcases hx with rfl | rfl <;> rcases hy with rfl | rfl
            · replace t0 : wr.cell? ⟨g6, o6 + i, none⟩ = some (.int .i64 0) := t0
              replace u0 : wr.cell? ⟨g7, o7 + i, none⟩ = some (.int .i64 0) := u0
              go_wp2_with fail
              go_quiet (fail)
              go_wp2
              go_roundw
              case rel => exact ⟨i + 1, by go_num, hiN, below_drewN HBt.out _⟩
              case measure => simp [intOf]; omega
            · replace t0 : wr.cell? ⟨g6, o6 + i, none⟩ = some (.int .i64 2) := t0
              replace u0 : wr.cell? ⟨g7, o7 + i, none⟩ = some (.int .i64 1) := u0
              go_wp2_with fail
              go_quiet (fail)
              go_wp2
              go_roundw
              case rel => exact ⟨i + 1, by go_num, hiN, below_drewN HBt.out _⟩
              case measure => simp [intOf]; omega
            · replace t0 : wr.cell? ⟨g6, o6 + i, none⟩ = some (.int .i64 1) := t0
              replace u0 : wr.cell? ⟨g7, o7 + i, none⟩ = some (.int .i64 2) := u0
              go_wp2_with fail
              go_quiet (fail)
              go_wp2
              go_roundw
              case rel => exact ⟨i + 1, by go_num, hiN, below_drewN HBt.out _⟩
              case measure => simp [intOf]; omega
            · replace t0 : wr.cell? ⟨g6, o6 + i, none⟩ = some (.int .i64 3) := t0
              replace u0 : wr.cell? ⟨g7, o7 + i, none⟩ = some (.int .i64 3) := u0
              go_wp2_with fail
              go_quiet (fail)
              go_wp2
              go_roundw
              case rel => exact ⟨i + 1, by go_num, hiN, below_drewN HBt.out _⟩
              case measure => simp [intOf]; omega
          · have e3 : decide (i < N) = false := by simp; omega
            go_wp2
            go_ret
            exact ⟨rfl, below_t HBF.out HBt.out⟩
end Go.Proofs.YtkgjpimapfmeoaaDoor
