/-
  The law MdpTells.
-/
import Derived.Test.YtkgjpimapfmeoaaDoorMl
import Derived.Test.YtkgjpimapfmeoaaDoorMe
import Derived.Test.YtkgjpimapfmeoaaDoorMf
import Derived.Test.YtkgjpimapfmeoaaDoorMg
import Derived.Test.YtkgjpimapfmeoaaDoorMh
import Derived.Deep.RegionHeld3
namespace Go.Proofs.YtkgjpimapfmeoaaDoor
open Go.RowKit

def LawF (w : World) (e : Ending) (w' : World) : Prop := e = .returned (.bool true) ∧ Below w.heap.size w w'
/-- What the law knows of memory while it compares. -/
structure TlM (p : PrO) (v vx : PV) (labels : List ByteArray) (w0 : World) (b0 b5 : Nat) (L : List (Option Addr × List Int)) (w : World) : Prop where
  bm : Bx w b0 26 (v.l p)
  bx : Bx w b5 31 (vx.l p)
  m : PrM w v p
  x : PrM w vx p
  il : ∀ y ∈ L, ISl w y.1 y.2
  g : Glob w
  b : Below w0.heap.size w0 w
section
variable {p : PrO} {v vx : PV} {labels : List ByteArray} {w0 : World} {b0 b5 : Nat} {L : List (Option Addr × List Int)} {w w' : World}
theorem TlM.below (h : TlM p v vx labels w0 b0 b5 L w) (hb : Below w.heap.size w w') : TlM p v vx labels w0 b0 b5 L w' :=
  ⟨h.bm.below hb, h.bx.below hb, h.m.below hb, h.x.below hb, fun y hy => (h.il y hy).below hb, h.g.below hb, below_t h.b hb⟩
theorem TlM.drew (h : TlM p v vx labels w0 b0 b5 L w) : TlM p v vx labels w0 b0 b5 L w.drew := h.below ((Below.refl _ _).drew)
theorem TlM.more (h : TlM p v vx labels w0 b0 b5 L w) {A : Option Addr} {l : List Int} (hl : ISl w A l) : TlM p v vx labels w0 b0 b5 ((A, l) :: L) w :=
  ⟨h.bm, h.bx, h.m, h.x, fun y hy => by
    rcases List.mem_cons.1 hy with rfl | hy
    · exact hl
    · exact h.il y hy, h.g, h.b⟩
theorem TlM.right (h : TlM p v vx labels w0 b0 b5 L w) (hs : Sml p) : Calls Tryd.prog 12 #[.agg #[.int .i64 p.init, .slice v.A p.chs.length v.a, .slice v.B p.nms.length v.b, .slice v.C p.hds.length v.c]] w fun e w' => e = .returned (.bool (decide p.right)) ∧ TlM p v vx labels w0 b0 b5 L w' :=
  (rright_any w h.m hs).mono fun _ _ ⟨h1, h2⟩ => ⟨h1, h.below h2⟩
theorem TlM.numNil (h : TlM p v vx labels w0 b0 b5 L w) : Calls Tryd.prog 13 #[.nilIface] w fun e w' => e = .returned (.int .i64 0) ∧ TlM p v vx labels w0 b0 b5 L w' :=
  (num_nil w).mono fun _ _ ⟨h1, h2⟩ => ⟨h1, by rw [h2]; exact h⟩
theorem TlM.num (n : Int) (h : TlM p v vx labels w0 b0 b5 L w) : Calls Tryd.prog 13 #[.iface 67 (.int .i64 n)] w fun e w' => e = .returned (.int .i64 n) ∧ TlM p v vx labels w0 b0 b5 L w' :=
  (num_errno n w h.g).mono fun _ _ ⟨h1, h2⟩ => ⟨h1, h.below h2⟩
theorem TlM.ints (h : TlM p v vx labels w0 b0 b5 L w) {A B : Option Addr} {l : List Int} {c1 c2 : Nat} (h1 : (A, l) ∈ L) (h2 : (B, l) ∈ L) (hl : l.length ≤ 1000000) : Calls Tryd.prog 14 #[.slice A l.length c1, .slice B l.length c2] w fun e w' => e = .returned (.bool true) ∧ TlM p v vx labels w0 b0 b5 L w' :=
  (ints_any w (h.il _ h1) (h.il _ h2) hl).mono fun _ _ ⟨h3, h4⟩ => ⟨by rw [h3, decide_eq_true rfl], h.below h4⟩
theorem TlM.reach (h : TlM p v vx labels w0 b0 b5 L w) (hs : Sml p) : Calls Tryd.prog 15 #[.agg #[.int .i64 p.init, .slice vx.A p.chs.length vx.a, .slice vx.B p.nms.length vx.b, .slice vx.C p.hds.length vx.c]] w fun e w' => ∃ A cap, e = .returned (.slice A (reachO p).length cap) ∧ TlM p v vx labels w0 b0 b5 ((A, reachO p) :: L) w' :=
  (reach_any w h.x hs).mono fun _ _ ⟨_, h1, h2, h3⟩ => by
    obtain ⟨A, cap, rfl, _, h4⟩ := own_isl h2
    exact ⟨A, cap, h1, (h.below h3).more h4⟩
theorem TlM.rreach (h : TlM p v vx labels w0 b0 b5 L w) (hs : Sml p) : Calls Tryd.prog 16 #[.agg #[.int .i64 p.init, .slice v.A p.chs.length v.a, .slice v.B p.nms.length v.b, .slice v.C p.hds.length v.c]] w fun e w' => ∃ A cap, e = .returned (.slice A (reachO p).length cap) ∧ TlM p v vx labels w0 b0 b5 ((A, reachO p) :: L) w' :=
  (rreach_any w h.m hs).mono fun _ _ ⟨_, h1, h2, h3⟩ => by
    obtain ⟨A, cap, rfl, _, h4⟩ := own_isl h2
    exact ⟨A, cap, h1, (h.below h3).more h4⟩
theorem TlM.rightT (h : TlM p v vx labels w0 b0 b5 L w) (hs : Sml p) (hr : p.right) : Calls Tryd.prog 12 #[.agg #[.int .i64 p.init, .slice v.A p.chs.length v.a, .slice v.B p.nms.length v.b, .slice v.C p.hds.length v.c]] w fun e w' => e = .returned (.bool true) ∧ TlM p v vx labels w0 b0 b5 L w' :=
  (h.right hs).mono fun _ _ ⟨h1, h2⟩ => ⟨by rw [h1, decide_eq_true hr], h2⟩
theorem TlM.rightF (h : TlM p v vx labels w0 b0 b5 L w) (hs : Sml p) (hr : ¬ p.right) : Calls Tryd.prog 12 #[.agg #[.int .i64 p.init, .slice v.A p.chs.length v.a, .slice v.B p.nms.length v.b, .slice v.C p.hds.length v.c]] w fun e w' => e = .returned (.bool false) ∧ TlM p v vx labels w0 b0 b5 L w' :=
  (h.right hs).mono fun _ _ ⟨h1, h2⟩ => ⟨by rw [h1, decide_eq_false hr], h2⟩
theorem TlM.numE (h : TlM p v vx labels w0 b0 b5 L w) {ev : Value} {n : Nat} (he : ev = errV n) : Calls Tryd.prog 13 #[ev] w fun e w' => e = .returned (.int .i64 (n : Int)) ∧ TlM p v vx labels w0 b0 b5 L w' := by
  subst he
  unfold errV
  by_cases h0 : n = 0
  · subst h0
    exact h.numNil
  · rw [if_neg h0]
    exact h.num n
end
theorem reachO_len (p : PrO) : (reachO p).length ≤ p.chs.length := by
  rw [reachO]
  split
  · exact marks_len _ _
  · simp
theorem letO_len (p : PrO) (labels : List ByteArray) : (letO p labels).length ≤ p.hds.length := by
  rw [letO]
  split
  · simp
  · simp
def RdR (N : Nat) (wb : World) (i : Value) (wr : World) : Prop := ∃ k : Nat, i = .int .i64 (k : Int) ∧ k ≤ N ∧ Below wb.heap.size wb wr
def FnR (tl : List Int) (tz : Int) (wb : World) (b i : Value) (wr : World) : Prop := ∃ k : Nat, i = .int .i64 (k : Int) ∧ k ≤ tl.length ∧ b = .bool (decide (tz ∈ tl.take k)) ∧ Below wb.heap.size wb wr
open Classical in
set_option maxHeartbeats 16000000 in
set_option maxRecDepth 100000 in
theorem tells_all {p : PrO} {v : PV} {A : Option Addr} {labels : List ByteArray} {cl : Nat} (w : World) (hG : Glob w) (hp : PrM w v p) (hl : SSl w A labels) : Calls Tryd.prog 3 #[.agg (v.l p).toArray, .slice A labels.length cl] w (LawF w) := by
  have HG := Lib.hid hG
  have HP := Lib.hid hp
  have HL := Lib.hid hl
  have HW := Lib.hid (below_alloc w (.cells (v.l p).toArray 26))
  have HX := Lib.hid (Bx.new w 26 (v.l p))
  change Hid (Below w.heap.size w (w.alloc (.cells #[.int .i64 p.init, .slice v.A p.chs.length v.a, .slice v.B p.nms.length v.b, .slice v.C p.hds.length v.c] 26))) at HW
  change Hid (Bx (w.alloc (.cells #[.int .i64 p.init, .slice v.A p.chs.length v.a, .slice v.B p.nms.length v.b, .slice v.C p.hds.length v.c] 26)) w.heap.size 26 [.int .i64 p.init, .slice v.A p.chs.length v.a, .slice v.B p.nms.length v.b, .slice v.C p.hds.length v.c]) at HX
  have HAL := Lib.hid (alive_yes (w.alloc (.cells #[.int .i64 p.init, .slice v.A p.chs.length v.a, .slice v.B p.nms.length v.b, .slice v.C p.hds.length v.c] 26)) (HG.out.below HW.out))
  have HFAR := Lib.hid (fun (W : World) (hb : Below w.heap.size w W) => far_any W (hp.below hb))
  change Hid (∀ (W : World) (hb : Below w.heap.size w W), Calls Tryd.prog 7 #[.agg #[.int .i64 p.init, .slice v.A p.chs.length v.a, .slice v.B p.nms.length v.b, .slice v.C p.hds.length v.c]] W (BoolP (decide (farO p)) W)) at HFAR
  show Calls Tryd.prog 3 #[.agg #[.int .i64 p.init, .slice v.A p.chs.length v.a, .slice v.B p.nms.length v.b, .slice v.C p.hds.length v.c], .slice A labels.length cl] w _
  clear hG hp hl
  obtain ⟨n, hn⟩ : ∃ n, n = labels.length := ⟨_, rfl⟩
  have HN := Lib.hid hn
  rw [← hn]
  clear hn
  by_cases hf : farO p
  · have HF := Lib.hid (decide_eq_true hf)
    clear hf
    go_enter Tryd.func3, Tryd.ntmps3
    go_wp2_with fail
    with_reducible refine (HAL.out).mono ?_
    rintro e w1 ⟨rfl, hb1⟩
    have HB1 := Lib.hid (below_t HW.out hb1)
    obtain ⟨x0, x1, x2, x3⟩ := (HX.out.below hb1).cells4
    clear hb1
    go_wp2_with fail
    with_reducible refine (HFAR.out _ HB1.out).mono ?_
    rintro e w2 ⟨rfl, hb2⟩
    have HB2 := Lib.hid (below_t HB1.out hb2)
    clear hb2
    rw [HF.out]
    go_wp2
    go_ret
    exact ⟨rfl, HB2.out⟩
  · have HF := Lib.hid (decide_eq_false hf)
    have HS := Lib.hid (sml_of hf)
    clear hf
    by_cases hn : 20 < n
    · have d1 : decide (20 < n) = true := by simp; omega
      have d1' : decide ((20 : Int) < (n : Int)) = true := by simp; omega
      go_enter Tryd.func3, Tryd.ntmps3
      go_wp2_with fail
      with_reducible refine (HAL.out).mono ?_
      rintro e w1 ⟨rfl, hb1⟩
      have HB1 := Lib.hid (below_t HW.out hb1)
      obtain ⟨x0, x1, x2, x3⟩ := (HX.out.below hb1).cells4
      clear hb1
      go_wp2_with fail
      with_reducible refine (HFAR.out _ HB1.out).mono ?_
      rintro e w2 ⟨rfl, hb2⟩
      have HB2 := Lib.hid (below_t HB1.out hb2)
      clear hb2
      rw [HF.out]
      go_wp2
      go_ret
      exact ⟨rfl, HB2.out⟩
    · have d1 : decide (20 < n) = false := by simp; omega
      have d1' : decide ((20 : Int) < (n : Int)) = false := by simp; omega
      go_enter Tryd.func3, Tryd.ntmps3
      go_wp2_with fail
      with_reducible refine (HAL.out).mono ?_
      rintro e w1 ⟨rfl, hb1⟩
      have HB1 := Lib.hid (below_t HW.out hb1)
      have HX1 := Lib.hid (HX.out.below hb1)
      obtain ⟨x0, x1, x2, x3⟩ := HX1.out.cells4
      clear hb1
      go_wp2_with fail
      with_reducible refine (HFAR.out _ HB1.out).mono ?_
      rintro e w2 ⟨rfl, hb2⟩
      have HB2 := Lib.hid (below_t HB1.out hb2)
      have HX2 := Lib.hid (HX1.out.below hb2)
      clear hb2 x0 x1 x2 x3
      obtain ⟨x0, x1, x2, x3⟩ := HX2.out.cells4
      rw [HF.out]
      have HOF := Lib.hid (of_any w2 (HP.out.below HB2.out) HS.out)
      change Hid (Calls Tryd.prog 8 #[.agg #[.int .i64 p.init, .slice v.A p.chs.length v.a, .slice v.B p.nms.length v.b, .slice v.C p.hds.length v.c]] w2 (OfP p w2)) at HOF
      go_wp2_with fail
      with_reducible refine (HOF.out).mono ?_
      rintro e w3 ⟨vx, rfl, hpi, hb3⟩
      have HM3 := Lib.hid (show TlM p v vx labels w w.heap.size w3.heap.size [] (w3.alloc (.cells #[.int .i64 p.init, .slice vx.A p.chs.length vx.a, .slice vx.B p.nms.length vx.b, .slice vx.C p.hds.length vx.c] 31)) from
        have hb4 := below_t HB2.out hb3
        have hb5 := below_alloc w3 (.cells #[.int .i64 p.init, .slice vx.A p.chs.length vx.a, .slice vx.B p.nms.length vx.b, .slice vx.C p.hds.length vx.c] 31)
        ⟨(HX2.out.below hb3).below hb5, Bx.new w3 31 _, (HP.out.below hb4).below hb5, hpi.mem.below hb5, fun y hy => absurd hy (by simp), HG.out.below (below_t hb4 hb5), below_t hb4 hb5⟩)
      have hw3 := hb3.size
      clear hpi hb3 HX2 HX1 HB1 HB2 HX HW x0 x1 x2 x3 HOF HAL HFAR
      dsimp only [PV.l]
      have HCK := Lib.hid (fun (W : World) (h : TlM p v vx labels w w.heap.size w3.heap.size [] W) => check_any W h.x HS.out)
      have HLT := Lib.hid (fun (W : World) (h : TlM p v vx labels w w.heap.size w3.heap.size [] W) => letters_any (cl := cl) W h.x HS.out (HL.out.below h.b) (by rw [← HN.out]; omega))
      have HRL := Lib.hid (fun (W : World) (A1 : Option Addr) (h : TlM p v vx labels w w.heap.size w3.heap.size [(A1, letO p labels)] W) => rletters_any (cl := cl) W h.m HS.out (HL.out.below h.b) (by rw [← HN.out]; omega))
      change Hid (∀ (W : World) (h : TlM p v vx labels w w.heap.size w3.heap.size [] W), Calls Tryd.prog 9 #[.agg #[.int .i64 p.init, .slice vx.A p.chs.length vx.a, .slice vx.B p.nms.length vx.b, .slice vx.C p.hds.length vx.c]] W (ErrP (if p.right then 0 else 1) W)) at HCK
      change Hid (∀ (W : World) (h : TlM p v vx labels w w.heap.size w3.heap.size [] W), Calls Tryd.prog 10 #[.agg #[.int .i64 p.init, .slice vx.A p.chs.length vx.a, .slice vx.B p.nms.length vx.b, .slice vx.C p.hds.length vx.c], .slice A labels.length cl] W (LtP p labels W)) at HLT
      change Hid (∀ (W : World) (A1 : Option Addr) (h : TlM p v vx labels w w.heap.size w3.heap.size [(A1, letO p labels)] W), Calls Tryd.prog 11 #[.agg #[.int .i64 p.init, .slice v.A p.chs.length v.a, .slice v.B p.nms.length v.b, .slice v.C p.hds.length v.c], .slice A labels.length cl] W (RlP p labels W)) at HRL
      rw [← HN.out] at HLT HRL
      have hbxl := HM3.out.bx.lt
      have hbml := HM3.out.bm.lt
      go_wp2_with fail
      obtain ⟨b5, hb5⟩ : ∃ b5, b5 = w3.heap.size := ⟨_, rfl⟩
      generalize w3.alloc (.cells #[.int .i64 p.init, .slice vx.A p.chs.length vx.a, .slice vx.B p.nms.length vx.b, .slice vx.C p.hds.length vx.c] 31) = W5 at HM3 hbxl hbml ⊢
      rw [← hb5] at HM3 HCK HLT HRL hbxl ⊢
      clear hb5 hw3
      with_reducible refine (HCK.out _ HM3.out).mono ?_
      rintro e w6 ⟨rfl, hb6⟩
      have HM6 := Lib.hid (HM3.out.below hb6)
      clear hb6 HM3 hbxl hbml
      obtain ⟨x0, x1, x2, x3⟩ := HM6.out.bx.cells4
      obtain ⟨ck, hck⟩ : ∃ ck, ck = (if (if p.right then (0 : Int) else 1) = 0 then Value.nilIface else Value.iface 67 (.int .i64 (if p.right then (0 : Int) else 1))) := ⟨_, rfl⟩
      rw [← hck]
      have HCV := Lib.hid hck
      clear hck
      go_wp2_with fail
      with_reducible refine (HLT.out _ HM6.out).mono ?_
      rintro e w7 ⟨A1, c1, rfl, hil, hb7⟩
      have HM7 := Lib.hid ((HM6.out.below hb7).more hil)
      clear hil hb7 HM6 x0 x1 x2 x3
      obtain ⟨y0, y1, y2, y3⟩ := HM7.out.bm.cells4
      obtain ⟨ev, hev⟩ : ∃ ev, ev = errV (letE p labels) := ⟨_, rfl⟩
      rw [← hev]
      have HEV := Lib.hid hev
      clear hev
      go_wp2_with fail
      with_reducible refine (HRL.out _ _ HM7.out).mono ?_
      rintro e w8 ⟨A2, c2, rfl, hil, hb8⟩
      have LK := Lib.hid ((HM7.out.below hb8).more hil)
      clear hil hb8 HM7 y0 y1 y2 y3
      have HLE := Lib.hid (letO_len p labels)
      have hs1 := HS.out.hd
      go_wp2_with fail
      have lk := LK.out.drew
      clear LK HCK HLT HRL
      go_upto_region 9 with fail
      go_cut [76] from 43 to 76 (fun s W => s = .bool false ∧ ∃ L, TlM p v vx labels w w.heap.size b5 L W)
      case first =>
        have HRE := Lib.hid (reachO_len p)
        have hs2 := HS.out.ch
        by_cases hr : p.right
        · have HR := Lib.hid hr
          have HCV2 : ck = .nilIface := by rw [HCV.out, if_pos hr]; rfl
          subst HCV2
          clear hr
          refine wp_region_held_drew (S := (fun w' : World => w'.cell? ⟨w.heap.size, 0, none⟩ = some (.int .i64 p.init) ∧ w'.cell? ⟨w.heap.size, 1, none⟩ = some (.slice v.A p.chs.length v.a) ∧ w'.cell? ⟨w.heap.size, 2, none⟩ = some (.slice v.B p.nms.length v.b) ∧ w'.cell? ⟨w.heap.size, 3, none⟩ = some (.slice v.C p.hds.length v.c) ∧ w'.cell? ⟨b5, 0, none⟩ = some (.int .i64 p.init) ∧ w'.cell? ⟨b5, 1, none⟩ = some (.slice vx.A p.chs.length vx.a) ∧ w'.cell? ⟨b5, 2, none⟩ = some (.slice vx.B p.nms.length vx.b) ∧ w'.cell? ⟨b5, 3, none⟩ = some (.slice vx.C p.hds.length vx.c))) (by kernel_rfl) (⟨lk.bm.cells4.1, lk.bm.cells4.2.1, lk.bm.cells4.2.2.1, lk.bm.cells4.2.2.2, lk.bx.cells4.1, lk.bx.cells4.2.1, lk.bx.cells4.2.2.1, lk.bx.cells4.2.2.2⟩) (fun hHeld => ?_)
          refine wpAnyH_take (i := 0) (oi := { dst := some 43, op := Op.move (Operand.tmp 6), type := 34, pos := "law.go:95", after := #[], guard := none }) (v := Value.nilIface) rfl (by kernel_rfl) (by kernel_rfl) (by kernel_rfl) (fun _ _ _ h => h) (Or.inl ⟨by rfl, ?hy⟩) (by assumption) ?_
          case hy => (intro wz hSw; (try dsimp only at hSw); go_simp)
          simp only [Act.put, List.setIfInBounds_toArray, List.set_cons_zero, List.set_cons_succ]
          refine wpAnyH_take (i := 1) (oi := { dst := some 44, op := Op.binOp BinOp.eql 34 (Operand.tmp 43) (Operand.const Value.nilIface) 34, type := 4, pos := "law.go:95", after := #[{ on := 0, ground := Ground.data }], guard := none }) (v := Value.bool true) rfl (by kernel_rfl) (by kernel_rfl) (by kernel_rfl) (fun _ _ _ h => h) (Or.inl ⟨by rfl, ?hy⟩) (by assumption) ?_
          case hy => (intro wz hSw; (try dsimp only at hSw); go_simp)
          simp only [Act.put, List.setIfInBounds_toArray, List.set_cons_zero, List.set_cons_succ]
          refine wpAnyH_take (i := 2) (oi := { dst := some 45, op := Op.load 26 (Operand.tmp 2), type := 26, pos := "law.go:95", after := #[], guard := none }) (v := (Value.agg #[.int .i64 p.init, .slice v.A p.chs.length v.a, .slice v.B p.nms.length v.b, .slice v.C p.hds.length v.c])) rfl (by kernel_rfl) (by kernel_rfl) (by kernel_rfl) (fun _ _ _ h => h) (Or.inl ⟨by rfl, ?hy⟩) (by assumption) ?_
          case hy => (intro wz hSw; (try dsimp only at hSw); go_simp)
          simp only [Act.put, List.setIfInBounds_toArray, List.set_cons_zero, List.set_cons_succ]
          refine wpAnyH_ready (rs := [3]) (by kernel_rfl) (by simp) ?_
          refine AllReadyH.cons (o := { dst := some 46, op := Op.call { callee := Callee.value (Operand.func 12), args := #[Operand.tmp 45], argTypes := #[26] }, type := 4, pos := "law.go:95", after := #[{ on := 2, ground := Ground.data }], guard := none }) rfl (fun K0 hK0 => ?_) AllReadyH.nil
          go_simp
          go_at_call 12
          with_reducible refine (lk.rightT HS.out HR.out).mono ?_
          rintro e wA ⟨rfl, lk2⟩
          replace lk := lk2
          clear lk2
          go_wp2_with fail
          refine hK0.out _ _ (⟨lk.bm.cells4.1, lk.bm.cells4.2.1, lk.bm.cells4.2.2.1, lk.bm.cells4.2.2.2, lk.bx.cells4.1, lk.bx.cells4.2.1, lk.bx.cells4.2.2.1, lk.bx.cells4.2.2.2⟩) (fun hHeld => ?_)
          clear hK0 K0
          try simp only [Act.put, List.setIfInBounds_toArray, List.set_cons_zero, List.set_cons_succ]
          refine wpAnyH_take (i := 4) (oi := { dst := some 47, op := Op.binOp BinOp.neq 4 (Operand.tmp 44) (Operand.tmp 46) 4, type := 4, pos := "law.go:95", after := #[{ on := 1, ground := Ground.data }, { on := 3, ground := Ground.data }], guard := none }) (v := Value.bool false) rfl (by kernel_rfl) (by kernel_rfl) (by kernel_rfl) (fun _ _ _ h => h) (Or.inl ⟨by rfl, ?hy⟩) (by assumption) ?_
          case hy => (intro wz hSw; (try dsimp only at hSw); go_simp)
          simp only [Act.put, List.setIfInBounds_toArray, List.set_cons_zero, List.set_cons_succ]
          refine wpAnyH_take (i := 5) (oi := { dst := some 48, op := Op.move (Operand.tmp 47), type := 4, pos := "law.go:95", after := #[{ on := 4, ground := Ground.data }, { on := 3, ground := Ground.chain }], guard := none }) (v := Value.bool false) rfl (by kernel_rfl) (by kernel_rfl) (by kernel_rfl) (fun _ _ _ h => h) (Or.inl ⟨by rfl, ?hy⟩) (by assumption) ?_
          case hy => (intro wz hSw; (try dsimp only at hSw); go_simp)
          simp only [Act.put, List.setIfInBounds_toArray, List.set_cons_zero, List.set_cons_succ]
          refine wpAnyH_take (i := 6) (oi := { dst := some 49, op := Op.move (Operand.tmp 6), type := 34, pos := "law.go:95", after := #[{ on := 5, ground := Ground.guard }], guard := some (5, false) }) (v := Value.nilIface) rfl (by kernel_rfl) (by kernel_rfl) (by kernel_rfl) (fun _ _ _ h => h) (Or.inl ⟨by rfl, ?hy⟩) (by assumption) ?_
          case hy => (intro wz hSw; (try dsimp only at hSw); go_simp)
          simp only [Act.put, List.setIfInBounds_toArray, List.set_cons_zero, List.set_cons_succ]
          refine wpAnyH_take (i := 7) (oi := { dst := some 50, op := Op.binOp BinOp.neq 34 (Operand.tmp 49) (Operand.const Value.nilIface) 34, type := 4, pos := "law.go:95", after := #[{ on := 6, ground := Ground.data }, { on := 5, ground := Ground.guard }], guard := some (5, false) }) (v := Value.bool false) rfl (by kernel_rfl) (by kernel_rfl) (by kernel_rfl) (fun _ _ _ h => h) (Or.inl ⟨by rfl, ?hy⟩) (by assumption) ?_
          case hy => (intro wz hSw; (try dsimp only at hSw); go_simp)
          simp only [Act.put, List.setIfInBounds_toArray, List.set_cons_zero, List.set_cons_succ]
          refine wpAnyH_take (i := 8) (oi := { dst := some 51, op := Op.move (Operand.tmp 50), type := 4, pos := "law.go:95", after := #[{ on := 7, ground := Ground.data }, { on := 5, ground := Ground.chain }, { on := 5, ground := Ground.guard }], guard := some (5, false) }) (v := Value.bool false) rfl (by kernel_rfl) (by kernel_rfl) (by kernel_rfl) (fun _ _ _ h => h) (Or.inl ⟨by rfl, ?hy⟩) (by assumption) ?_
          case hy => (intro wz hSw; (try dsimp only at hSw); go_simp)
          simp only [Act.put, List.setIfInBounds_toArray, List.set_cons_zero, List.set_cons_succ]
          refine wpAnyH_take (i := 9) (oi := { dst := some 52, op := Op.move (Operand.tmp 6), type := 34, pos := "law.go:95", after := #[{ on := 8, ground := Ground.guard }], guard := some (8, true) }) (v := undef) rfl (by kernel_rfl) (by kernel_rfl) (by kernel_rfl) (fun _ _ _ h => h) (Or.inr ⟨by rfl, rfl⟩) (by assumption) ?_
          simp only [Act.put, List.setIfInBounds_toArray, List.set_cons_zero, List.set_cons_succ]
          refine wpAnyH_ready (rs := [10]) (by kernel_rfl) (by simp) ?_
          refine AllReadyH.cons (o := { dst := some 53, op := Op.call { callee := Callee.value (Operand.func 13), args := #[Operand.tmp 52], argTypes := #[34] }, type := 3, pos := "law.go:95", after := #[{ on := 9, ground := Ground.data }, { on := 8, ground := Ground.chain }, { on := 8, ground := Ground.guard }], guard := some (8, true) }) rfl (fun K0 hK0 => ?_) AllReadyH.nil
          refine Eq.mpr (if_neg ?hn) ?_
          case hn => exact fun hx => Bool.noConfusion (show false = true from hx)
          refine hK0.out _ _ (⟨lk.bm.cells4.1, lk.bm.cells4.2.1, lk.bm.cells4.2.2.1, lk.bm.cells4.2.2.2, lk.bx.cells4.1, lk.bx.cells4.2.1, lk.bx.cells4.2.2.1, lk.bx.cells4.2.2.2⟩) (fun hHeld => ?_)
          clear hK0 K0
          try simp only [Act.put, List.setIfInBounds_toArray, List.set_cons_zero, List.set_cons_succ]
          refine wpAnyH_take (i := 11) (oi := { dst := some 54, op := Op.binOp BinOp.neq 3 (Operand.tmp 53) (Operand.const (Value.int IntKind.i64 1)) 3, type := 4, pos := "law.go:95", after := #[{ on := 10, ground := Ground.data }, { on := 8, ground := Ground.guard }], guard := some (8, true) }) (v := undef) rfl (by kernel_rfl) (by kernel_rfl) (by kernel_rfl) (fun _ _ _ h => h) (Or.inr ⟨by rfl, rfl⟩) (by assumption) ?_
          simp only [Act.put, List.setIfInBounds_toArray, List.set_cons_zero, List.set_cons_succ]
          refine wpAnyH_take (i := 12) (oi := { dst := some 55, op := Op.pick (Operand.tmp 51) (Operand.tmp 54) (Operand.const (Value.bool false)), type := 4, pos := "law.go:95", after := #[{ on := 8, ground := Ground.data }, { on := 11, ground := Ground.data }, { on := 5, ground := Ground.guard }], guard := some (5, false) }) (v := Value.bool false) rfl (by kernel_rfl) (by kernel_rfl) (by kernel_rfl) (fun _ _ _ h => h) (Or.inl ⟨by rfl, ?hy⟩) (by assumption) ?_
          case hy => (intro wz hSw; (try dsimp only at hSw); go_simp)
          simp only [Act.put, List.setIfInBounds_toArray, List.set_cons_zero, List.set_cons_succ]
          refine wpAnyH_take (i := 13) (oi := { dst := some 56, op := Op.pick (Operand.tmp 48) (Operand.const (Value.bool true)) (Operand.tmp 55), type := 4, pos := "law.go:95", after := #[{ on := 5, ground := Ground.data }, { on := 12, ground := Ground.data }], guard := none }) (v := Value.bool false) rfl (by kernel_rfl) (by kernel_rfl) (by kernel_rfl) (fun _ _ _ h => h) (Or.inl ⟨by rfl, ?hy⟩) (by assumption) ?_
          case hy => (intro wz hSw; (try dsimp only at hSw); go_simp)
          simp only [Act.put, List.setIfInBounds_toArray, List.set_cons_zero, List.set_cons_succ]
          refine wpAnyH_take (i := 14) (oi := { dst := some 57, op := Op.move (Operand.tmp 56), type := 4, pos := "law.go:95", after := #[{ on := 13, ground := Ground.data }, { on := 10, ground := Ground.chain }], guard := none }) (v := Value.bool false) rfl (by kernel_rfl) (by kernel_rfl) (by kernel_rfl) (fun _ _ _ h => h) (Or.inl ⟨by rfl, ?hy⟩) (by assumption) ?_
          case hy => (intro wz hSw; (try dsimp only at hSw); go_simp)
          simp only [Act.put, List.setIfInBounds_toArray, List.set_cons_zero, List.set_cons_succ]
          refine wpAnyH_take (i := 15) (oi := { dst := some 58, op := Op.move (Operand.tmp 8), type := 34, pos := "law.go:95", after := #[{ on := 14, ground := Ground.guard }], guard := some (14, false) }) (v := ev) rfl (by kernel_rfl) (by kernel_rfl) (by kernel_rfl) (fun _ _ _ h => h) (Or.inl ⟨by rfl, ?hy⟩) (by assumption) ?_
          case hy => (intro wz hSw; (try dsimp only at hSw); go_simp)
          simp only [Act.put, List.setIfInBounds_toArray, List.set_cons_zero, List.set_cons_succ]
          refine wpAnyH_take (i := 17) (oi := { dst := some 60, op := Op.move (Operand.tmp 10), type := 3, pos := "law.go:95", after := #[{ on := 14, ground := Ground.guard }], guard := some (14, false) }) (v := Value.int .i64 ((letE p labels : Nat) : Int)) rfl (by kernel_rfl) (by kernel_rfl) (by kernel_rfl) (fun _ _ _ h => h) (Or.inl ⟨by rfl, ?hy⟩) (by assumption) ?_
          case hy => (intro wz hSw; (try dsimp only at hSw); go_simp)
          simp only [Act.put, List.setIfInBounds_toArray, List.set_cons_zero, List.set_cons_succ]
          refine wpAnyH_ready (rs := [16]) (by kernel_rfl) (by simp) ?_
          refine AllReadyH.cons (o := { dst := some 59, op := Op.call { callee := Callee.value (Operand.func 13), args := #[Operand.tmp 58], argTypes := #[34] }, type := 3, pos := "law.go:95", after := #[{ on := 15, ground := Ground.data }, { on := 14, ground := Ground.chain }, { on := 14, ground := Ground.guard }], guard := some (14, false) }) rfl (fun K0 hK0 => ?_) AllReadyH.nil
          go_simp
          go_at_call 13
          with_reducible refine (lk.numE HEV.out).mono ?_
          rintro e wA ⟨rfl, lk2⟩
          replace lk := lk2
          clear lk2
          go_wp2_with fail
          refine hK0.out _ _ (⟨lk.bm.cells4.1, lk.bm.cells4.2.1, lk.bm.cells4.2.2.1, lk.bm.cells4.2.2.2, lk.bx.cells4.1, lk.bx.cells4.2.1, lk.bx.cells4.2.2.1, lk.bx.cells4.2.2.2⟩) (fun hHeld => ?_)
          clear hK0 K0
          try simp only [Act.put, List.setIfInBounds_toArray, List.set_cons_zero, List.set_cons_succ]
          refine wpAnyH_take (i := 18) (oi := { dst := some 61, op := Op.binOp BinOp.neq 3 (Operand.tmp 59) (Operand.tmp 60) 3, type := 4, pos := "law.go:95", after := #[{ on := 16, ground := Ground.data }, { on := 17, ground := Ground.data }, { on := 14, ground := Ground.guard }], guard := some (14, false) }) (v := Value.bool false) rfl (by kernel_rfl) (by kernel_rfl) (by kernel_rfl) (fun _ _ _ h => h) (Or.inl ⟨by rfl, ?hy⟩) (by assumption) ?_
          case hy => (intro wz hSw; (try dsimp only at hSw); go_simp)
          simp only [Act.put, List.setIfInBounds_toArray, List.set_cons_zero, List.set_cons_succ]
          refine wpAnyH_take (i := 19) (oi := { dst := some 62, op := Op.pick (Operand.tmp 57) (Operand.const (Value.bool true)) (Operand.tmp 61), type := 4, pos := "law.go:95", after := #[{ on := 14, ground := Ground.data }, { on := 18, ground := Ground.data }], guard := none }) (v := Value.bool false) rfl (by kernel_rfl) (by kernel_rfl) (by kernel_rfl) (fun _ _ _ h => h) (Or.inl ⟨by rfl, ?hy⟩) (by assumption) ?_
          case hy => (intro wz hSw; (try dsimp only at hSw); go_simp)
          simp only [Act.put, List.setIfInBounds_toArray, List.set_cons_zero, List.set_cons_succ]
          refine wpAnyH_take (i := 20) (oi := { dst := some 63, op := Op.move (Operand.tmp 62), type := 4, pos := "law.go:95", after := #[{ on := 19, ground := Ground.data }, { on := 16, ground := Ground.chain }], guard := none }) (v := Value.bool false) rfl (by kernel_rfl) (by kernel_rfl) (by kernel_rfl) (fun _ _ _ h => h) (Or.inl ⟨by rfl, ?hy⟩) (by assumption) ?_
          case hy => (intro wz hSw; (try dsimp only at hSw); go_simp)
          simp only [Act.put, List.setIfInBounds_toArray, List.set_cons_zero, List.set_cons_succ]
          refine wpAnyH_take (i := 21) (oi := { dst := some 64, op := Op.move (Operand.tmp 7), type := 36, pos := "law.go:95", after := #[{ on := 20, ground := Ground.guard }], guard := some (20, false) }) (v := Value.slice A1 (letO p labels).length c1) rfl (by kernel_rfl) (by kernel_rfl) (by kernel_rfl) (fun _ _ _ h => h) (Or.inl ⟨by rfl, ?hy⟩) (by assumption) ?_
          case hy => (intro wz hSw; (try dsimp only at hSw); go_simp)
          simp only [Act.put, List.setIfInBounds_toArray, List.set_cons_zero, List.set_cons_succ]
          refine wpAnyH_take (i := 22) (oi := { dst := some 65, op := Op.move (Operand.tmp 9), type := 36, pos := "law.go:95", after := #[{ on := 20, ground := Ground.guard }], guard := some (20, false) }) (v := Value.slice A2 (letO p labels).length c2) rfl (by kernel_rfl) (by kernel_rfl) (by kernel_rfl) (fun _ _ _ h => h) (Or.inl ⟨by rfl, ?hy⟩) (by assumption) ?_
          case hy => (intro wz hSw; (try dsimp only at hSw); go_simp)
          simp only [Act.put, List.setIfInBounds_toArray, List.set_cons_zero, List.set_cons_succ]
          refine wpAnyH_ready (rs := [23]) (by kernel_rfl) (by simp) ?_
          refine AllReadyH.cons (o := { dst := some 66, op := Op.call { callee := Callee.value (Operand.func 14), args := #[Operand.tmp 64, Operand.tmp 65], argTypes := #[36, 36] }, type := 4, pos := "law.go:95", after := #[{ on := 21, ground := Ground.data }, { on := 22, ground := Ground.data }, { on := 20, ground := Ground.chain }, { on := 20, ground := Ground.guard }], guard := some (20, false) }) rfl (fun K0 hK0 => ?_) AllReadyH.nil
          go_simp
          go_at_call 14
          with_reducible refine (lk.ints (A := A1) (B := A2) (by simp) (by simp) (by have := HLE.out; omega)).mono ?_
          rintro e wA ⟨rfl, lk2⟩
          replace lk := lk2
          clear lk2
          go_wp2_with fail
          refine hK0.out _ _ (⟨lk.bm.cells4.1, lk.bm.cells4.2.1, lk.bm.cells4.2.2.1, lk.bm.cells4.2.2.2, lk.bx.cells4.1, lk.bx.cells4.2.1, lk.bx.cells4.2.2.1, lk.bx.cells4.2.2.2⟩) (fun hHeld => ?_)
          clear hK0 K0
          try simp only [Act.put, List.setIfInBounds_toArray, List.set_cons_zero, List.set_cons_succ]
          refine wpAnyH_take (i := 24) (oi := { dst := some 67, op := Op.unOp UnOp.not 4 (Operand.tmp 66), type := 4, pos := "law.go:95", after := #[{ on := 23, ground := Ground.data }, { on := 20, ground := Ground.guard }], guard := some (20, false) }) (v := Value.bool false) rfl (by kernel_rfl) (by kernel_rfl) (by kernel_rfl) (fun _ _ _ h => h) (Or.inl ⟨by rfl, ?hy⟩) (by assumption) ?_
          case hy => (intro wz hSw; (try dsimp only at hSw); go_simp)
          simp only [Act.put, List.setIfInBounds_toArray, List.set_cons_zero, List.set_cons_succ]
          refine wpAnyH_take (i := 25) (oi := { dst := some 68, op := Op.pick (Operand.tmp 63) (Operand.const (Value.bool true)) (Operand.tmp 67), type := 4, pos := "law.go:95", after := #[{ on := 20, ground := Ground.data }, { on := 24, ground := Ground.data }], guard := none }) (v := Value.bool false) rfl (by kernel_rfl) (by kernel_rfl) (by kernel_rfl) (fun _ _ _ h => h) (Or.inl ⟨by rfl, ?hy⟩) (by assumption) ?_
          case hy => (intro wz hSw; (try dsimp only at hSw); go_simp)
          simp only [Act.put, List.setIfInBounds_toArray, List.set_cons_zero, List.set_cons_succ]
          refine wpAnyH_take (i := 26) (oi := { dst := some 69, op := Op.move (Operand.tmp 68), type := 4, pos := "law.go:95", after := #[{ on := 25, ground := Ground.data }, { on := 23, ground := Ground.chain }], guard := none }) (v := Value.bool false) rfl (by kernel_rfl) (by kernel_rfl) (by kernel_rfl) (fun _ _ _ h => h) (Or.inl ⟨by rfl, ?hy⟩) (by assumption) ?_
          case hy => (intro wz hSw; (try dsimp only at hSw); go_simp)
          simp only [Act.put, List.setIfInBounds_toArray, List.set_cons_zero, List.set_cons_succ]
          refine wpAnyH_take (i := 27) (oi := { dst := some 70, op := Op.load 31 (Operand.tmp 5), type := 31, pos := "law.go:95", after := #[{ on := 26, ground := Ground.guard }], guard := some (26, false) }) (v := (Value.agg #[.int .i64 p.init, .slice vx.A p.chs.length vx.a, .slice vx.B p.nms.length vx.b, .slice vx.C p.hds.length vx.c])) rfl (by kernel_rfl) (by kernel_rfl) (by kernel_rfl) (fun _ _ _ h => h) (Or.inl ⟨by rfl, ?hy⟩) (by assumption) ?_
          case hy => (intro wz hSw; (try dsimp only at hSw); go_simp)
          simp only [Act.put, List.setIfInBounds_toArray, List.set_cons_zero, List.set_cons_succ]
          refine wpAnyH_take (i := 29) (oi := { dst := some 72, op := Op.load 26 (Operand.tmp 2), type := 26, pos := "law.go:95", after := #[{ on := 26, ground := Ground.guard }], guard := some (26, false) }) (v := (Value.agg #[.int .i64 p.init, .slice v.A p.chs.length v.a, .slice v.B p.nms.length v.b, .slice v.C p.hds.length v.c])) rfl (by kernel_rfl) (by kernel_rfl) (by kernel_rfl) (fun _ _ _ h => h) (Or.inl ⟨by rfl, ?hy⟩) (by assumption) ?_
          case hy => (intro wz hSw; (try dsimp only at hSw); go_simp)
          simp only [Act.put, List.setIfInBounds_toArray, List.set_cons_zero, List.set_cons_succ]
          refine wpAnyH_ready (rs := [28]) (by kernel_rfl) (by simp) ?_
          refine AllReadyH.cons (o := { dst := some 71, op := Op.call { callee := Callee.value (Operand.func 15), args := #[Operand.tmp 70], argTypes := #[31] }, type := 36, pos := "law.go:95", after := #[{ on := 27, ground := Ground.data }, { on := 26, ground := Ground.chain }, { on := 26, ground := Ground.guard }], guard := some (26, false) }) rfl (fun K0 hK0 => ?_) AllReadyH.nil
          go_simp
          go_at_call 15
          with_reducible refine (lk.reach HS.out).mono ?_
          rintro e wA ⟨A3, c3, rfl, lk2⟩
          replace lk := lk2
          clear lk2
          go_wp2_with fail
          refine hK0.out _ _ (⟨lk.bm.cells4.1, lk.bm.cells4.2.1, lk.bm.cells4.2.2.1, lk.bm.cells4.2.2.2, lk.bx.cells4.1, lk.bx.cells4.2.1, lk.bx.cells4.2.2.1, lk.bx.cells4.2.2.2⟩) (fun hHeld => ?_)
          clear hK0 K0
          try simp only [Act.put, List.setIfInBounds_toArray, List.set_cons_zero, List.set_cons_succ]
          refine wpAnyH_ready (rs := [30]) (by kernel_rfl) (by simp) ?_
          refine AllReadyH.cons (o := { dst := some 73, op := Op.call { callee := Callee.value (Operand.func 16), args := #[Operand.tmp 72], argTypes := #[26] }, type := 36, pos := "law.go:95", after := #[{ on := 29, ground := Ground.data }, { on := 28, ground := Ground.chain }, { on := 26, ground := Ground.guard }], guard := some (26, false) }) rfl (fun K0 hK0 => ?_) AllReadyH.nil
          go_simp
          go_at_call 16
          with_reducible refine (lk.rreach HS.out).mono ?_
          rintro e wA ⟨A4, c4, rfl, lk2⟩
          replace lk := lk2
          clear lk2
          go_wp2_with fail
          refine hK0.out _ _ (⟨lk.bm.cells4.1, lk.bm.cells4.2.1, lk.bm.cells4.2.2.1, lk.bm.cells4.2.2.2, lk.bx.cells4.1, lk.bx.cells4.2.1, lk.bx.cells4.2.2.1, lk.bx.cells4.2.2.2⟩) (fun hHeld => ?_)
          clear hK0 K0
          try simp only [Act.put, List.setIfInBounds_toArray, List.set_cons_zero, List.set_cons_succ]
          refine wpAnyH_ready (rs := [31]) (by kernel_rfl) (by simp) ?_
          refine AllReadyH.cons (o := { dst := some 74, op := Op.call { callee := Callee.value (Operand.func 14), args := #[Operand.tmp 71, Operand.tmp 73], argTypes := #[36, 36] }, type := 4, pos := "law.go:95", after := #[{ on := 28, ground := Ground.data }, { on := 30, ground := Ground.data }, { on := 30, ground := Ground.chain }, { on := 26, ground := Ground.guard }], guard := some (26, false) }) rfl (fun K0 hK0 => ?_) AllReadyH.nil
          go_simp
          go_at_call 14
          with_reducible refine (lk.ints (A := A3) (B := A4) (by simp) (by simp) (by have := HRE.out; omega)).mono ?_
          rintro e wA ⟨rfl, lk2⟩
          replace lk := lk2
          clear lk2
          go_wp2_with fail
          refine hK0.out _ _ (⟨lk.bm.cells4.1, lk.bm.cells4.2.1, lk.bm.cells4.2.2.1, lk.bm.cells4.2.2.2, lk.bx.cells4.1, lk.bx.cells4.2.1, lk.bx.cells4.2.2.1, lk.bx.cells4.2.2.2⟩) (fun hHeld => ?_)
          clear hK0 K0
          try simp only [Act.put, List.setIfInBounds_toArray, List.set_cons_zero, List.set_cons_succ]
          refine wpAnyH_take (i := 32) (oi := { dst := some 75, op := Op.unOp UnOp.not 4 (Operand.tmp 74), type := 4, pos := "law.go:95", after := #[{ on := 31, ground := Ground.data }, { on := 26, ground := Ground.guard }], guard := some (26, false) }) (v := Value.bool false) rfl (by kernel_rfl) (by kernel_rfl) (by kernel_rfl) (fun _ _ _ h => h) (Or.inl ⟨by rfl, ?hy⟩) (by assumption) ?_
          case hy => (intro wz hSw; (try dsimp only at hSw); go_simp)
          simp only [Act.put, List.setIfInBounds_toArray, List.set_cons_zero, List.set_cons_succ]
          refine wpAnyH_take (i := 33) (oi := { dst := some 76, op := Op.pick (Operand.tmp 69) (Operand.const (Value.bool true)) (Operand.tmp 75), type := 4, pos := "law.go:95", after := #[{ on := 26, ground := Ground.data }, { on := 32, ground := Ground.data }], guard := none }) (v := Value.bool false) rfl (by kernel_rfl) (by kernel_rfl) (by kernel_rfl) (fun _ _ _ h => h) (Or.inl ⟨by rfl, ?hy⟩) (by assumption) ?_
          case hy => (intro wz hSw; (try dsimp only at hSw); go_simp)
          simp only [Act.put, List.setIfInBounds_toArray, List.set_cons_zero, List.set_cons_succ]
          refine wpAnyH_done (by kernel_rfl) ?_ _
          go_wp2
          go_meet
          exact ⟨rfl, _, lk⟩
        · have HR := Lib.hid hr
          have HCV2 : ck = .iface 67 (.int .i64 1) := by rw [HCV.out, if_neg hr]; rfl
          subst HCV2
          clear hr
          refine wp_region_held_drew (S := (fun w' : World => w'.cell? ⟨w.heap.size, 0, none⟩ = some (.int .i64 p.init) ∧ w'.cell? ⟨w.heap.size, 1, none⟩ = some (.slice v.A p.chs.length v.a) ∧ w'.cell? ⟨w.heap.size, 2, none⟩ = some (.slice v.B p.nms.length v.b) ∧ w'.cell? ⟨w.heap.size, 3, none⟩ = some (.slice v.C p.hds.length v.c) ∧ w'.cell? ⟨b5, 0, none⟩ = some (.int .i64 p.init) ∧ w'.cell? ⟨b5, 1, none⟩ = some (.slice vx.A p.chs.length vx.a) ∧ w'.cell? ⟨b5, 2, none⟩ = some (.slice vx.B p.nms.length vx.b) ∧ w'.cell? ⟨b5, 3, none⟩ = some (.slice vx.C p.hds.length vx.c))) (by kernel_rfl) (⟨lk.bm.cells4.1, lk.bm.cells4.2.1, lk.bm.cells4.2.2.1, lk.bm.cells4.2.2.2, lk.bx.cells4.1, lk.bx.cells4.2.1, lk.bx.cells4.2.2.1, lk.bx.cells4.2.2.2⟩) (fun hHeld => ?_)
          refine wpAnyH_take (i := 0) (oi := { dst := some 43, op := Op.move (Operand.tmp 6), type := 34, pos := "law.go:95", after := #[], guard := none }) (v := (Value.iface 67 (.int .i64 1))) rfl (by kernel_rfl) (by kernel_rfl) (by kernel_rfl) (fun _ _ _ h => h) (Or.inl ⟨by rfl, ?hy⟩) (by assumption) ?_
          case hy => (intro wz hSw; (try dsimp only at hSw); go_simp)
          simp only [Act.put, List.setIfInBounds_toArray, List.set_cons_zero, List.set_cons_succ]
          refine wpAnyH_take (i := 1) (oi := { dst := some 44, op := Op.binOp BinOp.eql 34 (Operand.tmp 43) (Operand.const Value.nilIface) 34, type := 4, pos := "law.go:95", after := #[{ on := 0, ground := Ground.data }], guard := none }) (v := Value.bool false) rfl (by kernel_rfl) (by kernel_rfl) (by kernel_rfl) (fun _ _ _ h => h) (Or.inl ⟨by rfl, ?hy⟩) (by assumption) ?_
          case hy => (intro wz hSw; (try dsimp only at hSw); go_simp)
          simp only [Act.put, List.setIfInBounds_toArray, List.set_cons_zero, List.set_cons_succ]
          refine wpAnyH_take (i := 2) (oi := { dst := some 45, op := Op.load 26 (Operand.tmp 2), type := 26, pos := "law.go:95", after := #[], guard := none }) (v := (Value.agg #[.int .i64 p.init, .slice v.A p.chs.length v.a, .slice v.B p.nms.length v.b, .slice v.C p.hds.length v.c])) rfl (by kernel_rfl) (by kernel_rfl) (by kernel_rfl) (fun _ _ _ h => h) (Or.inl ⟨by rfl, ?hy⟩) (by assumption) ?_
          case hy => (intro wz hSw; (try dsimp only at hSw); go_simp)
          simp only [Act.put, List.setIfInBounds_toArray, List.set_cons_zero, List.set_cons_succ]
          refine wpAnyH_ready (rs := [3]) (by kernel_rfl) (by simp) ?_
          refine AllReadyH.cons (o := { dst := some 46, op := Op.call { callee := Callee.value (Operand.func 12), args := #[Operand.tmp 45], argTypes := #[26] }, type := 4, pos := "law.go:95", after := #[{ on := 2, ground := Ground.data }], guard := none }) rfl (fun K0 hK0 => ?_) AllReadyH.nil
          go_simp
          go_at_call 12
          with_reducible refine (lk.rightF HS.out HR.out).mono ?_
          rintro e wA ⟨rfl, lk2⟩
          replace lk := lk2
          clear lk2
          go_wp2_with fail
          refine hK0.out _ _ (⟨lk.bm.cells4.1, lk.bm.cells4.2.1, lk.bm.cells4.2.2.1, lk.bm.cells4.2.2.2, lk.bx.cells4.1, lk.bx.cells4.2.1, lk.bx.cells4.2.2.1, lk.bx.cells4.2.2.2⟩) (fun hHeld => ?_)
          clear hK0 K0
          try simp only [Act.put, List.setIfInBounds_toArray, List.set_cons_zero, List.set_cons_succ]
          refine wpAnyH_take (i := 4) (oi := { dst := some 47, op := Op.binOp BinOp.neq 4 (Operand.tmp 44) (Operand.tmp 46) 4, type := 4, pos := "law.go:95", after := #[{ on := 1, ground := Ground.data }, { on := 3, ground := Ground.data }], guard := none }) (v := Value.bool false) rfl (by kernel_rfl) (by kernel_rfl) (by kernel_rfl) (fun _ _ _ h => h) (Or.inl ⟨by rfl, ?hy⟩) (by assumption) ?_
          case hy => (intro wz hSw; (try dsimp only at hSw); go_simp)
          simp only [Act.put, List.setIfInBounds_toArray, List.set_cons_zero, List.set_cons_succ]
          refine wpAnyH_take (i := 5) (oi := { dst := some 48, op := Op.move (Operand.tmp 47), type := 4, pos := "law.go:95", after := #[{ on := 4, ground := Ground.data }, { on := 3, ground := Ground.chain }], guard := none }) (v := Value.bool false) rfl (by kernel_rfl) (by kernel_rfl) (by kernel_rfl) (fun _ _ _ h => h) (Or.inl ⟨by rfl, ?hy⟩) (by assumption) ?_
          case hy => (intro wz hSw; (try dsimp only at hSw); go_simp)
          simp only [Act.put, List.setIfInBounds_toArray, List.set_cons_zero, List.set_cons_succ]
          refine wpAnyH_take (i := 6) (oi := { dst := some 49, op := Op.move (Operand.tmp 6), type := 34, pos := "law.go:95", after := #[{ on := 5, ground := Ground.guard }], guard := some (5, false) }) (v := (Value.iface 67 (.int .i64 1))) rfl (by kernel_rfl) (by kernel_rfl) (by kernel_rfl) (fun _ _ _ h => h) (Or.inl ⟨by rfl, ?hy⟩) (by assumption) ?_
          case hy => (intro wz hSw; (try dsimp only at hSw); go_simp)
          simp only [Act.put, List.setIfInBounds_toArray, List.set_cons_zero, List.set_cons_succ]
          refine wpAnyH_take (i := 7) (oi := { dst := some 50, op := Op.binOp BinOp.neq 34 (Operand.tmp 49) (Operand.const Value.nilIface) 34, type := 4, pos := "law.go:95", after := #[{ on := 6, ground := Ground.data }, { on := 5, ground := Ground.guard }], guard := some (5, false) }) (v := Value.bool true) rfl (by kernel_rfl) (by kernel_rfl) (by kernel_rfl) (fun _ _ _ h => h) (Or.inl ⟨by rfl, ?hy⟩) (by assumption) ?_
          case hy => (intro wz hSw; (try dsimp only at hSw); go_simp)
          simp only [Act.put, List.setIfInBounds_toArray, List.set_cons_zero, List.set_cons_succ]
          refine wpAnyH_take (i := 8) (oi := { dst := some 51, op := Op.move (Operand.tmp 50), type := 4, pos := "law.go:95", after := #[{ on := 7, ground := Ground.data }, { on := 5, ground := Ground.chain }, { on := 5, ground := Ground.guard }], guard := some (5, false) }) (v := Value.bool true) rfl (by kernel_rfl) (by kernel_rfl) (by kernel_rfl) (fun _ _ _ h => h) (Or.inl ⟨by rfl, ?hy⟩) (by assumption) ?_
          case hy => (intro wz hSw; (try dsimp only at hSw); go_simp)
          simp only [Act.put, List.setIfInBounds_toArray, List.set_cons_zero, List.set_cons_succ]
          refine wpAnyH_take (i := 9) (oi := { dst := some 52, op := Op.move (Operand.tmp 6), type := 34, pos := "law.go:95", after := #[{ on := 8, ground := Ground.guard }], guard := some (8, true) }) (v := (Value.iface 67 (.int .i64 1))) rfl (by kernel_rfl) (by kernel_rfl) (by kernel_rfl) (fun _ _ _ h => h) (Or.inl ⟨by rfl, ?hy⟩) (by assumption) ?_
          case hy => (intro wz hSw; (try dsimp only at hSw); go_simp)
          simp only [Act.put, List.setIfInBounds_toArray, List.set_cons_zero, List.set_cons_succ]
          refine wpAnyH_ready (rs := [10]) (by kernel_rfl) (by simp) ?_
          refine AllReadyH.cons (o := { dst := some 53, op := Op.call { callee := Callee.value (Operand.func 13), args := #[Operand.tmp 52], argTypes := #[34] }, type := 3, pos := "law.go:95", after := #[{ on := 9, ground := Ground.data }, { on := 8, ground := Ground.chain }, { on := 8, ground := Ground.guard }], guard := some (8, true) }) rfl (fun K0 hK0 => ?_) AllReadyH.nil
          go_simp
          go_at_call 13
          with_reducible refine (lk.num 1).mono ?_
          rintro e wA ⟨rfl, lk2⟩
          replace lk := lk2
          clear lk2
          go_wp2_with fail
          refine hK0.out _ _ (⟨lk.bm.cells4.1, lk.bm.cells4.2.1, lk.bm.cells4.2.2.1, lk.bm.cells4.2.2.2, lk.bx.cells4.1, lk.bx.cells4.2.1, lk.bx.cells4.2.2.1, lk.bx.cells4.2.2.2⟩) (fun hHeld => ?_)
          clear hK0 K0
          try simp only [Act.put, List.setIfInBounds_toArray, List.set_cons_zero, List.set_cons_succ]
          refine wpAnyH_take (i := 11) (oi := { dst := some 54, op := Op.binOp BinOp.neq 3 (Operand.tmp 53) (Operand.const (Value.int IntKind.i64 1)) 3, type := 4, pos := "law.go:95", after := #[{ on := 10, ground := Ground.data }, { on := 8, ground := Ground.guard }], guard := some (8, true) }) (v := Value.bool false) rfl (by kernel_rfl) (by kernel_rfl) (by kernel_rfl) (fun _ _ _ h => h) (Or.inl ⟨by rfl, ?hy⟩) (by assumption) ?_
          case hy => (intro wz hSw; (try dsimp only at hSw); go_simp)
          simp only [Act.put, List.setIfInBounds_toArray, List.set_cons_zero, List.set_cons_succ]
          refine wpAnyH_take (i := 12) (oi := { dst := some 55, op := Op.pick (Operand.tmp 51) (Operand.tmp 54) (Operand.const (Value.bool false)), type := 4, pos := "law.go:95", after := #[{ on := 8, ground := Ground.data }, { on := 11, ground := Ground.data }, { on := 5, ground := Ground.guard }], guard := some (5, false) }) (v := Value.bool false) rfl (by kernel_rfl) (by kernel_rfl) (by kernel_rfl) (fun _ _ _ h => h) (Or.inl ⟨by rfl, ?hy⟩) (by assumption) ?_
          case hy => (intro wz hSw; (try dsimp only at hSw); go_simp)
          simp only [Act.put, List.setIfInBounds_toArray, List.set_cons_zero, List.set_cons_succ]
          refine wpAnyH_take (i := 13) (oi := { dst := some 56, op := Op.pick (Operand.tmp 48) (Operand.const (Value.bool true)) (Operand.tmp 55), type := 4, pos := "law.go:95", after := #[{ on := 5, ground := Ground.data }, { on := 12, ground := Ground.data }], guard := none }) (v := Value.bool false) rfl (by kernel_rfl) (by kernel_rfl) (by kernel_rfl) (fun _ _ _ h => h) (Or.inl ⟨by rfl, ?hy⟩) (by assumption) ?_
          case hy => (intro wz hSw; (try dsimp only at hSw); go_simp)
          simp only [Act.put, List.setIfInBounds_toArray, List.set_cons_zero, List.set_cons_succ]
          refine wpAnyH_take (i := 14) (oi := { dst := some 57, op := Op.move (Operand.tmp 56), type := 4, pos := "law.go:95", after := #[{ on := 13, ground := Ground.data }, { on := 10, ground := Ground.chain }], guard := none }) (v := Value.bool false) rfl (by kernel_rfl) (by kernel_rfl) (by kernel_rfl) (fun _ _ _ h => h) (Or.inl ⟨by rfl, ?hy⟩) (by assumption) ?_
          case hy => (intro wz hSw; (try dsimp only at hSw); go_simp)
          simp only [Act.put, List.setIfInBounds_toArray, List.set_cons_zero, List.set_cons_succ]
          refine wpAnyH_take (i := 15) (oi := { dst := some 58, op := Op.move (Operand.tmp 8), type := 34, pos := "law.go:95", after := #[{ on := 14, ground := Ground.guard }], guard := some (14, false) }) (v := ev) rfl (by kernel_rfl) (by kernel_rfl) (by kernel_rfl) (fun _ _ _ h => h) (Or.inl ⟨by rfl, ?hy⟩) (by assumption) ?_
          case hy => (intro wz hSw; (try dsimp only at hSw); go_simp)
          simp only [Act.put, List.setIfInBounds_toArray, List.set_cons_zero, List.set_cons_succ]
          refine wpAnyH_take (i := 17) (oi := { dst := some 60, op := Op.move (Operand.tmp 10), type := 3, pos := "law.go:95", after := #[{ on := 14, ground := Ground.guard }], guard := some (14, false) }) (v := Value.int .i64 ((letE p labels : Nat) : Int)) rfl (by kernel_rfl) (by kernel_rfl) (by kernel_rfl) (fun _ _ _ h => h) (Or.inl ⟨by rfl, ?hy⟩) (by assumption) ?_
          case hy => (intro wz hSw; (try dsimp only at hSw); go_simp)
          simp only [Act.put, List.setIfInBounds_toArray, List.set_cons_zero, List.set_cons_succ]
          refine wpAnyH_ready (rs := [16]) (by kernel_rfl) (by simp) ?_
          refine AllReadyH.cons (o := { dst := some 59, op := Op.call { callee := Callee.value (Operand.func 13), args := #[Operand.tmp 58], argTypes := #[34] }, type := 3, pos := "law.go:95", after := #[{ on := 15, ground := Ground.data }, { on := 14, ground := Ground.chain }, { on := 14, ground := Ground.guard }], guard := some (14, false) }) rfl (fun K0 hK0 => ?_) AllReadyH.nil
          go_simp
          go_at_call 13
          with_reducible refine (lk.numE HEV.out).mono ?_
          rintro e wA ⟨rfl, lk2⟩
          replace lk := lk2
          clear lk2
          go_wp2_with fail
          refine hK0.out _ _ (⟨lk.bm.cells4.1, lk.bm.cells4.2.1, lk.bm.cells4.2.2.1, lk.bm.cells4.2.2.2, lk.bx.cells4.1, lk.bx.cells4.2.1, lk.bx.cells4.2.2.1, lk.bx.cells4.2.2.2⟩) (fun hHeld => ?_)
          clear hK0 K0
          try simp only [Act.put, List.setIfInBounds_toArray, List.set_cons_zero, List.set_cons_succ]
          refine wpAnyH_take (i := 18) (oi := { dst := some 61, op := Op.binOp BinOp.neq 3 (Operand.tmp 59) (Operand.tmp 60) 3, type := 4, pos := "law.go:95", after := #[{ on := 16, ground := Ground.data }, { on := 17, ground := Ground.data }, { on := 14, ground := Ground.guard }], guard := some (14, false) }) (v := Value.bool false) rfl (by kernel_rfl) (by kernel_rfl) (by kernel_rfl) (fun _ _ _ h => h) (Or.inl ⟨by rfl, ?hy⟩) (by assumption) ?_
          case hy => (intro wz hSw; (try dsimp only at hSw); go_simp)
          simp only [Act.put, List.setIfInBounds_toArray, List.set_cons_zero, List.set_cons_succ]
          refine wpAnyH_take (i := 19) (oi := { dst := some 62, op := Op.pick (Operand.tmp 57) (Operand.const (Value.bool true)) (Operand.tmp 61), type := 4, pos := "law.go:95", after := #[{ on := 14, ground := Ground.data }, { on := 18, ground := Ground.data }], guard := none }) (v := Value.bool false) rfl (by kernel_rfl) (by kernel_rfl) (by kernel_rfl) (fun _ _ _ h => h) (Or.inl ⟨by rfl, ?hy⟩) (by assumption) ?_
          case hy => (intro wz hSw; (try dsimp only at hSw); go_simp)
          simp only [Act.put, List.setIfInBounds_toArray, List.set_cons_zero, List.set_cons_succ]
          refine wpAnyH_take (i := 20) (oi := { dst := some 63, op := Op.move (Operand.tmp 62), type := 4, pos := "law.go:95", after := #[{ on := 19, ground := Ground.data }, { on := 16, ground := Ground.chain }], guard := none }) (v := Value.bool false) rfl (by kernel_rfl) (by kernel_rfl) (by kernel_rfl) (fun _ _ _ h => h) (Or.inl ⟨by rfl, ?hy⟩) (by assumption) ?_
          case hy => (intro wz hSw; (try dsimp only at hSw); go_simp)
          simp only [Act.put, List.setIfInBounds_toArray, List.set_cons_zero, List.set_cons_succ]
          refine wpAnyH_take (i := 21) (oi := { dst := some 64, op := Op.move (Operand.tmp 7), type := 36, pos := "law.go:95", after := #[{ on := 20, ground := Ground.guard }], guard := some (20, false) }) (v := Value.slice A1 (letO p labels).length c1) rfl (by kernel_rfl) (by kernel_rfl) (by kernel_rfl) (fun _ _ _ h => h) (Or.inl ⟨by rfl, ?hy⟩) (by assumption) ?_
          case hy => (intro wz hSw; (try dsimp only at hSw); go_simp)
          simp only [Act.put, List.setIfInBounds_toArray, List.set_cons_zero, List.set_cons_succ]
          refine wpAnyH_take (i := 22) (oi := { dst := some 65, op := Op.move (Operand.tmp 9), type := 36, pos := "law.go:95", after := #[{ on := 20, ground := Ground.guard }], guard := some (20, false) }) (v := Value.slice A2 (letO p labels).length c2) rfl (by kernel_rfl) (by kernel_rfl) (by kernel_rfl) (fun _ _ _ h => h) (Or.inl ⟨by rfl, ?hy⟩) (by assumption) ?_
          case hy => (intro wz hSw; (try dsimp only at hSw); go_simp)
          simp only [Act.put, List.setIfInBounds_toArray, List.set_cons_zero, List.set_cons_succ]
          refine wpAnyH_ready (rs := [23]) (by kernel_rfl) (by simp) ?_
          refine AllReadyH.cons (o := { dst := some 66, op := Op.call { callee := Callee.value (Operand.func 14), args := #[Operand.tmp 64, Operand.tmp 65], argTypes := #[36, 36] }, type := 4, pos := "law.go:95", after := #[{ on := 21, ground := Ground.data }, { on := 22, ground := Ground.data }, { on := 20, ground := Ground.chain }, { on := 20, ground := Ground.guard }], guard := some (20, false) }) rfl (fun K0 hK0 => ?_) AllReadyH.nil
          go_simp
          go_at_call 14
          with_reducible refine (lk.ints (A := A1) (B := A2) (by simp) (by simp) (by have := HLE.out; omega)).mono ?_
          rintro e wA ⟨rfl, lk2⟩
          replace lk := lk2
          clear lk2
          go_wp2_with fail
          refine hK0.out _ _ (⟨lk.bm.cells4.1, lk.bm.cells4.2.1, lk.bm.cells4.2.2.1, lk.bm.cells4.2.2.2, lk.bx.cells4.1, lk.bx.cells4.2.1, lk.bx.cells4.2.2.1, lk.bx.cells4.2.2.2⟩) (fun hHeld => ?_)
          clear hK0 K0
          try simp only [Act.put, List.setIfInBounds_toArray, List.set_cons_zero, List.set_cons_succ]
          refine wpAnyH_take (i := 24) (oi := { dst := some 67, op := Op.unOp UnOp.not 4 (Operand.tmp 66), type := 4, pos := "law.go:95", after := #[{ on := 23, ground := Ground.data }, { on := 20, ground := Ground.guard }], guard := some (20, false) }) (v := Value.bool false) rfl (by kernel_rfl) (by kernel_rfl) (by kernel_rfl) (fun _ _ _ h => h) (Or.inl ⟨by rfl, ?hy⟩) (by assumption) ?_
          case hy => (intro wz hSw; (try dsimp only at hSw); go_simp)
          simp only [Act.put, List.setIfInBounds_toArray, List.set_cons_zero, List.set_cons_succ]
          refine wpAnyH_take (i := 25) (oi := { dst := some 68, op := Op.pick (Operand.tmp 63) (Operand.const (Value.bool true)) (Operand.tmp 67), type := 4, pos := "law.go:95", after := #[{ on := 20, ground := Ground.data }, { on := 24, ground := Ground.data }], guard := none }) (v := Value.bool false) rfl (by kernel_rfl) (by kernel_rfl) (by kernel_rfl) (fun _ _ _ h => h) (Or.inl ⟨by rfl, ?hy⟩) (by assumption) ?_
          case hy => (intro wz hSw; (try dsimp only at hSw); go_simp)
          simp only [Act.put, List.setIfInBounds_toArray, List.set_cons_zero, List.set_cons_succ]
          refine wpAnyH_take (i := 26) (oi := { dst := some 69, op := Op.move (Operand.tmp 68), type := 4, pos := "law.go:95", after := #[{ on := 25, ground := Ground.data }, { on := 23, ground := Ground.chain }], guard := none }) (v := Value.bool false) rfl (by kernel_rfl) (by kernel_rfl) (by kernel_rfl) (fun _ _ _ h => h) (Or.inl ⟨by rfl, ?hy⟩) (by assumption) ?_
          case hy => (intro wz hSw; (try dsimp only at hSw); go_simp)
          simp only [Act.put, List.setIfInBounds_toArray, List.set_cons_zero, List.set_cons_succ]
          refine wpAnyH_take (i := 27) (oi := { dst := some 70, op := Op.load 31 (Operand.tmp 5), type := 31, pos := "law.go:95", after := #[{ on := 26, ground := Ground.guard }], guard := some (26, false) }) (v := (Value.agg #[.int .i64 p.init, .slice vx.A p.chs.length vx.a, .slice vx.B p.nms.length vx.b, .slice vx.C p.hds.length vx.c])) rfl (by kernel_rfl) (by kernel_rfl) (by kernel_rfl) (fun _ _ _ h => h) (Or.inl ⟨by rfl, ?hy⟩) (by assumption) ?_
          case hy => (intro wz hSw; (try dsimp only at hSw); go_simp)
          simp only [Act.put, List.setIfInBounds_toArray, List.set_cons_zero, List.set_cons_succ]
          refine wpAnyH_take (i := 29) (oi := { dst := some 72, op := Op.load 26 (Operand.tmp 2), type := 26, pos := "law.go:95", after := #[{ on := 26, ground := Ground.guard }], guard := some (26, false) }) (v := (Value.agg #[.int .i64 p.init, .slice v.A p.chs.length v.a, .slice v.B p.nms.length v.b, .slice v.C p.hds.length v.c])) rfl (by kernel_rfl) (by kernel_rfl) (by kernel_rfl) (fun _ _ _ h => h) (Or.inl ⟨by rfl, ?hy⟩) (by assumption) ?_
          case hy => (intro wz hSw; (try dsimp only at hSw); go_simp)
          simp only [Act.put, List.setIfInBounds_toArray, List.set_cons_zero, List.set_cons_succ]
          refine wpAnyH_ready (rs := [28]) (by kernel_rfl) (by simp) ?_
          refine AllReadyH.cons (o := { dst := some 71, op := Op.call { callee := Callee.value (Operand.func 15), args := #[Operand.tmp 70], argTypes := #[31] }, type := 36, pos := "law.go:95", after := #[{ on := 27, ground := Ground.data }, { on := 26, ground := Ground.chain }, { on := 26, ground := Ground.guard }], guard := some (26, false) }) rfl (fun K0 hK0 => ?_) AllReadyH.nil
          go_simp
          go_at_call 15
          with_reducible refine (lk.reach HS.out).mono ?_
          rintro e wA ⟨A3, c3, rfl, lk2⟩
          replace lk := lk2
          clear lk2
          go_wp2_with fail
          refine hK0.out _ _ (⟨lk.bm.cells4.1, lk.bm.cells4.2.1, lk.bm.cells4.2.2.1, lk.bm.cells4.2.2.2, lk.bx.cells4.1, lk.bx.cells4.2.1, lk.bx.cells4.2.2.1, lk.bx.cells4.2.2.2⟩) (fun hHeld => ?_)
          clear hK0 K0
          try simp only [Act.put, List.setIfInBounds_toArray, List.set_cons_zero, List.set_cons_succ]
          refine wpAnyH_ready (rs := [30]) (by kernel_rfl) (by simp) ?_
          refine AllReadyH.cons (o := { dst := some 73, op := Op.call { callee := Callee.value (Operand.func 16), args := #[Operand.tmp 72], argTypes := #[26] }, type := 36, pos := "law.go:95", after := #[{ on := 29, ground := Ground.data }, { on := 28, ground := Ground.chain }, { on := 26, ground := Ground.guard }], guard := some (26, false) }) rfl (fun K0 hK0 => ?_) AllReadyH.nil
          go_simp
          go_at_call 16
          with_reducible refine (lk.rreach HS.out).mono ?_
          rintro e wA ⟨A4, c4, rfl, lk2⟩
          replace lk := lk2
          clear lk2
          go_wp2_with fail
          refine hK0.out _ _ (⟨lk.bm.cells4.1, lk.bm.cells4.2.1, lk.bm.cells4.2.2.1, lk.bm.cells4.2.2.2, lk.bx.cells4.1, lk.bx.cells4.2.1, lk.bx.cells4.2.2.1, lk.bx.cells4.2.2.2⟩) (fun hHeld => ?_)
          clear hK0 K0
          try simp only [Act.put, List.setIfInBounds_toArray, List.set_cons_zero, List.set_cons_succ]
          refine wpAnyH_ready (rs := [31]) (by kernel_rfl) (by simp) ?_
          refine AllReadyH.cons (o := { dst := some 74, op := Op.call { callee := Callee.value (Operand.func 14), args := #[Operand.tmp 71, Operand.tmp 73], argTypes := #[36, 36] }, type := 4, pos := "law.go:95", after := #[{ on := 28, ground := Ground.data }, { on := 30, ground := Ground.data }, { on := 30, ground := Ground.chain }, { on := 26, ground := Ground.guard }], guard := some (26, false) }) rfl (fun K0 hK0 => ?_) AllReadyH.nil
          go_simp
          go_at_call 14
          with_reducible refine (lk.ints (A := A3) (B := A4) (by simp) (by simp) (by have := HRE.out; omega)).mono ?_
          rintro e wA ⟨rfl, lk2⟩
          replace lk := lk2
          clear lk2
          go_wp2_with fail
          refine hK0.out _ _ (⟨lk.bm.cells4.1, lk.bm.cells4.2.1, lk.bm.cells4.2.2.1, lk.bm.cells4.2.2.2, lk.bx.cells4.1, lk.bx.cells4.2.1, lk.bx.cells4.2.2.1, lk.bx.cells4.2.2.2⟩) (fun hHeld => ?_)
          clear hK0 K0
          try simp only [Act.put, List.setIfInBounds_toArray, List.set_cons_zero, List.set_cons_succ]
          refine wpAnyH_take (i := 32) (oi := { dst := some 75, op := Op.unOp UnOp.not 4 (Operand.tmp 74), type := 4, pos := "law.go:95", after := #[{ on := 31, ground := Ground.data }, { on := 26, ground := Ground.guard }], guard := some (26, false) }) (v := Value.bool false) rfl (by kernel_rfl) (by kernel_rfl) (by kernel_rfl) (fun _ _ _ h => h) (Or.inl ⟨by rfl, ?hy⟩) (by assumption) ?_
          case hy => (intro wz hSw; (try dsimp only at hSw); go_simp)
          simp only [Act.put, List.setIfInBounds_toArray, List.set_cons_zero, List.set_cons_succ]
          refine wpAnyH_take (i := 33) (oi := { dst := some 76, op := Op.pick (Operand.tmp 69) (Operand.const (Value.bool true)) (Operand.tmp 75), type := 4, pos := "law.go:95", after := #[{ on := 26, ground := Ground.data }, { on := 32, ground := Ground.data }], guard := none }) (v := Value.bool false) rfl (by kernel_rfl) (by kernel_rfl) (by kernel_rfl) (fun _ _ _ h => h) (Or.inl ⟨by rfl, ?hy⟩) (by assumption) ?_
          case hy => (intro wz hSw; (try dsimp only at hSw); go_simp)
          simp only [Act.put, List.setIfInBounds_toArray, List.set_cons_zero, List.set_cons_succ]
          refine wpAnyH_done (by kernel_rfl) ?_ _
          go_wp2
          go_meet
          exact ⟨rfl, _, lk⟩
      case rest =>
        obtain ⟨rfl, L, hlk⟩ := hcut
        have LC := Lib.hid hlk
        have HB := Lib.hid hlk.b
        obtain ⟨m0, m1, m2, m3⟩ := hlk.bm.cells4
        obtain ⟨q0, q1, q2, q3⟩ := hlk.bx.cells4
        clear hlk lk
        have hs2 := HS.out.ch
        obtain ⟨N, hN⟩ : ∃ N, N = p.chs.length := ⟨_, rfl⟩
        rw [← hN] at m1 q1 hs2
        have HNN := Lib.hid hN
        have hCM := LC.out.m.ch
        have hCX := LC.out.x.ch
        generalize v.A = vA at *
        generalize vx.A = xA at *
        have HCM := Lib.hid hCM
        have HCX := Lib.hid hCX
        clear hN hCM hCX
        go_wp2
        go_loopw [11] (fun i W => RdR N wc i W) (fun i _ => N - (intOf i).toNat)
        case atStart => exact ⟨0, rfl, Nat.zero_le _, Below.refl _ _⟩
        case round =>
          obtain ⟨s, rfl, hsl, hb⟩ := hrel
          have HB1 := Lib.hid hb
          have y1 := cell_blw hb m1
          clear hb
          by_cases hsN : s < N
          · have e1 : decide (s < N) = true := by simp; omega
            have ks : s < p.chs.length := by rw [← HNN.out]; exact hsN
            obtain ⟨gA, oA, B, cap1, rfl, a0, hc1, hcl⟩ := HCM.out s ks
            obtain ⟨gX, oX, BX, capX, rfl, a1, hcX, hclX⟩ := HCX.out s ks
            have HXM := Lib.hid HCM
            have HXX := Lib.hid HCX
            clear HCM HCX hsl
            have HCL := Lib.hid hcl
            have HCLX := Lib.hid hclX
            have HMV := Lib.hid (HS.out.mv _ (List.getElem_mem ks))
            have hlk : p.chs[s].length ≤ 1000000 := HS.out.cs _ (List.getElem_mem ks)
            generalize p.chs[s] = cs at *
            obtain ⟨K, hK⟩ : ∃ K, K = cs.length := ⟨_, rfl⟩
            have HKK := Lib.hid hK
            rw [← hK] at a0 a1 hc1 hcX hlk
            have A0 := Lib.hid a0
            have A1' := Lib.hid a1
            clear hcl hclX hK a0 a1
            go_wp2
            go_loopw [12] (fun i W => RdR K wc i W) (fun i _ => K - (intOf i).toNat)
            case atStart => exact ⟨0, rfl, Nat.zero_le _, HB1.out⟩
            case round =>
              clear HB1 y1
              obtain ⟨c, rfl, hcl, hb⟩ := hrel
              have HB1 := Lib.hid hb
              have y1 := cell_blw hb m1
              have z1 := cell_blw hb q1
              have b0 := cell_blw hb A0.out
              have b1 := cell_blw hb A1'.out
              clear hb
              by_cases hcK : c < K
              · have e2 : decide (c < K) = true := by simp; omega
                have kc : c < cs.length := by rw [← HKK.out]; exact hcK
                obtain ⟨g2, o2, B2, cap2, rfl, k1, k2, hc2, hml⟩ := HCL.out c kc
                obtain ⟨g3, o3, B3, cap3, rfl, j1, j2, hc3, hmlX⟩ := HCLX.out c kc
                have HYL := Lib.hid HCL
                have HYX := Lib.hid HCLX
                clear HCL HCLX hcl
                have HML := Lib.hid hml
                have HMLX := Lib.hid hmlX
                have hmk : cs[c].mv.length ≤ 1000000 := HMV.out _ (List.getElem_mem kc)
                generalize cs[c] = ch at *
                obtain ⟨act, mv⟩ := ch
                simp only at k1 k2 j1 j2 hc2 hc3 HML HMLX hmk hml hmlX
                obtain ⟨M, hM⟩ : ∃ M, M = mv.length := ⟨_, rfl⟩
                have HMM := Lib.hid hM
                have HSU := Lib.hid (fun (W : World) (hb : Below wc.heap.size wc W) => support_any (act := act) (cap := cap3) W (HMLX.out.below hb) hmk)
                rw [← hM] at k2 j2 hc2 hc3 hmk HSU
                have K1 := Lib.hid k1
                have K2 := Lib.hid k2
                replace j1 := cell_blw HB1.out j1
                replace j2 := cell_blw HB1.out j2
                have j2' := j2
                rw [← Nat.add_assoc] at j2'
                clear hml hmlX hM k1 k2
                go_wp2_with fail
                with_reducible refine (HSU.out _ HB1.out).mono ?_
                rintro e wt ⟨At, ct, rfl, hil, hbt⟩
                have HIL := Lib.hid hil
                have HBT := Lib.hid (below_t HB1.out hbt)
                have HTL := Lib.hid (show (Lib.compact (srt mv)).length ≤ 1000000 by have h1 := Lib.compact_length_le (srt mv); have h2 := srt_len mv; have h3 := HMM.out; omega)
                have HTI := Lib.hid (fun x => (compact_in (srt mv) x).trans (srt_perm mv).mem_iff)
                have HTA := Lib.hid (compact_asc (srt_pw mv))
                clear hil hbt y1 z1 b0 b1 j1 j2 j2' HB1 HSU
                obtain ⟨tl, htl⟩ : ∃ tl, tl = Lib.compact (srt mv) := ⟨_, rfl⟩
                rw [← htl] at HIL HTL HTI HTA ⊢
                obtain ⟨T, hT⟩ : ∃ T, T = tl.length := ⟨_, rfl⟩
                have HTT := Lib.hid hT
                have hT1 : T ≤ 1000000 := by rw [hT]; exact HTL.out
                rw [← hT]
                clear htl hT HTL
                go_wp2
                go_loopw [14] (fun i W => RdR T wt i W) (fun i _ => T - (intOf i).toNat)
                case atStart => exact ⟨0, rfl, Nat.zero_le _, Below.refl _ _⟩
                case round =>
                  obtain ⟨i, rfl, hil, hb⟩ := hrel
                  by_cases hiT : i < T
                  · have e3 : decide (i < T) = true := by simp; omega
                    have ki : i < tl.length := by rw [← HTT.out]; exact hiT
                    obtain ⟨g5, o5, rfl, t0⟩ := HIL.out i ki
                    have HIL2 := Lib.hid HIL
                    have M1 := Lib.hid (cell_blw HBT.out m1)
                    have B0 := Lib.hid (cell_blw HBT.out A0.out)
                    have K1t := Lib.hid (cell_blw HBT.out K1.out)
                    have K2t := Lib.hid (show wt.cell? ⟨g2, o2 + c * 2 + 1, none⟩ = some (.slice B2 M cap2) by rw [Nat.add_assoc]; exact cell_blw HBT.out K2.out)
                    have HHAS := Lib.hid (show tl[i] ∈ mv.map MvO.to from (HTI.out _).1 (List.getElem_mem ki))
                    by_cases hip : 0 < i
                    · have e5 : decide (0 < i) = true := by simp; omega
                      obtain ⟨j, rfl⟩ : ∃ j, i = j + 1 := ⟨i - 1, by omega⟩
                      have kj : j < tl.length := by omega
                      have hjT : j < T := by omega
                      have hj0 : ¬ ((j : Int) + 1 < 0) := by omega
                      have hwj : IntKind.i64.wrap (j : Int) = (j : Int) := IntWalk.i64_in _ (by omega)
                      obtain ⟨g5', o5', h5, t1⟩ := HIL2.out.out j kj
                      injection h5 with h5
                      injection h5 with h5 h6
                      subst h5 h6
                      have hlt : tl[j] < tl[j + 1] := List.pairwise_iff_getElem.1 HTA.out j (j + 1) kj ki (by omega)
                      have e4 : decide (tl[j + 1] ≤ tl[j]) = false := by simp; omega
                      obtain ⟨x, hx⟩ : ∃ x, x = tl[j + 1] := ⟨_, rfl⟩
                      obtain ⟨z, hz⟩ : ∃ z, z = tl[j] := ⟨_, rfl⟩
                      rw [← hx] at t0 e4 HHAS
                      rw [← hz] at t1 e4
                      have T0 := Lib.hid t0
                      have T1 := Lib.hid t1
                      have QH := Lib.hid (fun (W : World) (hb : Below wt.heap.size wt W) => (has_any (act := act) (cap := cap2) x W ((HML.out.below HBT.out).below hb) (by rw [← HMM.out]; exact hmk)).mono (fun e w' (h : e = .returned (.bool (decide (x ∈ mv.map MvO.to))) ∧ Below W.heap.size W w') => (⟨by rw [h.1, decide_eq_true HHAS.out], below_t hb h.2⟩ : e = .returned (.bool true) ∧ Below wt.heap.size wt w')))
                      rw [← HMM.out] at QH
                      clear hx hz hlt t1 t0 hil HIL
                      go_upto_region 21 with fail
                      have lk := hb.drew
                      clear hb
                      refine wp_region_held_drew (S := (fun w' : World => w'.cell? ⟨w.heap.size, 1, none⟩ = some (.slice (some ⟨gA, oA, none⟩) N v.a) ∧ w'.cell? ⟨gA, oA + s, none⟩ = some (.slice (some ⟨g2, o2, none⟩) K cap1) ∧ w'.cell? ⟨g2, o2 + c * 2, none⟩ = some (.string act) ∧ w'.cell? ⟨g2, o2 + c * 2 + 1, none⟩ = some (.slice B2 M cap2) ∧ w'.cell? ⟨g5, o5 + (j + 1), none⟩ = some (.int .i64 x) ∧ w'.cell? ⟨g5, o5 + j, none⟩ = some (.int .i64 z))) (by kernel_rfl) (⟨cell_blw lk M1.out, cell_blw lk B0.out, cell_blw lk K1t.out, cell_blw lk K2t.out, cell_blw lk T0.out, cell_blw lk T1.out⟩) (fun hHeld => ?_)
                      refine wpAnyH_take (i := 0) (oi := { dst := some 109, op := Op.fieldAddr 26 (Operand.tmp 2) 1, type := 0, pos := "law.go:102", after := #[], guard := none }) (v := Value.pointer (some ⟨w.heap.size, 1, none⟩)) rfl (by kernel_rfl) (by kernel_rfl) (by kernel_rfl) (fun _ _ _ h => h) (Or.inl ⟨by rfl, ?hy⟩) (by assumption) ?_
                      case hy => (intro wz hSw; (try dsimp only at hSw); go_simp)
                      simp only [Act.put, List.setIfInBounds_toArray, List.set_cons_zero, List.set_cons_succ]
                      refine wpAnyH_take (i := 1) (oi := { dst := some 110, op := Op.load 22 (Operand.tmp 109), type := 22, pos := "law.go:102", after := #[{ on := 0, ground := Ground.data }], guard := none }) (v := Value.slice (some ⟨gA, oA, none⟩) N v.a) rfl (by kernel_rfl) (by kernel_rfl) (by kernel_rfl) (fun _ _ _ h => h) (Or.inl ⟨by rfl, ?hy⟩) (by assumption) ?_
                      case hy => (intro wz hSw; (try dsimp only at hSw); go_simp)
                      simp only [Act.put, List.setIfInBounds_toArray, List.set_cons_zero, List.set_cons_succ]
                      refine wpAnyH_take (i := 2) (oi := { dst := some 111, op := Op.move (Operand.tmp 11), type := 3, pos := "law.go:102", after := #[], guard := none }) (v := Value.int .i64 (s : Int)) rfl (by kernel_rfl) (by kernel_rfl) (by kernel_rfl) (fun _ _ _ h => h) (Or.inl ⟨by rfl, ?hy⟩) (by assumption) ?_
                      case hy => (intro wz hSw; (try dsimp only at hSw); go_simp)
                      simp only [Act.put, List.setIfInBounds_toArray, List.set_cons_zero, List.set_cons_succ]
                      refine wpAnyH_take (i := 3) (oi := { dst := some 112, op := Op.indexAddr 22 (Operand.tmp 110) (Operand.tmp 111), type := 0, pos := "law.go:102", after := #[{ on := 1, ground := Ground.data }, { on := 2, ground := Ground.data }], guard := none }) (v := Value.pointer (some ⟨gA, oA + s, none⟩)) rfl (by kernel_rfl) (by kernel_rfl) (by kernel_rfl) (fun _ _ _ h => h) (Or.inl ⟨by rfl, ?hy⟩) (by assumption) ?_
                      case hy => (intro wz hSw; (try dsimp only at hSw); go_simp)
                      simp only [Act.put, List.setIfInBounds_toArray, List.set_cons_zero, List.set_cons_succ]
                      refine wpAnyH_take (i := 4) (oi := { dst := some 113, op := Op.load 45 (Operand.tmp 112), type := 45, pos := "law.go:102", after := #[{ on := 3, ground := Ground.data }], guard := none }) (v := Value.slice (some ⟨g2, o2, none⟩) K cap1) rfl (by kernel_rfl) (by kernel_rfl) (by kernel_rfl) (fun _ _ _ h => h) (Or.inl ⟨by rfl, ?hy⟩) (by assumption) ?_
                      case hy => (intro wz hSw; (try dsimp only at hSw); go_simp)
                      simp only [Act.put, List.setIfInBounds_toArray, List.set_cons_zero, List.set_cons_succ]
                      refine wpAnyH_take (i := 5) (oi := { dst := some 114, op := Op.move (Operand.tmp 12), type := 3, pos := "law.go:102", after := #[], guard := none }) (v := Value.int .i64 (c : Int)) rfl (by kernel_rfl) (by kernel_rfl) (by kernel_rfl) (fun _ _ _ h => h) (Or.inl ⟨by rfl, ?hy⟩) (by assumption) ?_
                      case hy => (intro wz hSw; (try dsimp only at hSw); go_simp)
                      simp only [Act.put, List.setIfInBounds_toArray, List.set_cons_zero, List.set_cons_succ]
                      refine wpAnyH_take (i := 6) (oi := { dst := some 115, op := Op.indexAddr 45 (Operand.tmp 113) (Operand.tmp 114), type := 0, pos := "law.go:102", after := #[{ on := 4, ground := Ground.data }, { on := 5, ground := Ground.data }], guard := none }) (v := Value.pointer (some ⟨g2, o2 + c * 2, none⟩)) rfl (by kernel_rfl) (by kernel_rfl) (by kernel_rfl) (fun _ _ _ h => h) (Or.inl ⟨by rfl, ?hy⟩) (by assumption) ?_
                      case hy => (intro wz hSw; (try dsimp only at hSw); go_simp)
                      simp only [Act.put, List.setIfInBounds_toArray, List.set_cons_zero, List.set_cons_succ]
                      refine wpAnyH_take (i := 7) (oi := { dst := some 116, op := Op.load 54 (Operand.tmp 115), type := 54, pos := "law.go:102", after := #[{ on := 6, ground := Ground.data }], guard := none }) (v := (Value.agg #[.string act, .slice B2 M cap2])) rfl (by kernel_rfl) (by kernel_rfl) (by kernel_rfl) (fun _ _ _ h => h) (Or.inl ⟨by rfl, ?hy⟩) (by assumption) ?_
                      case hy => (intro wz hSw; (try dsimp only at hSw); go_simp)
                      simp only [Act.put, List.setIfInBounds_toArray, List.set_cons_zero, List.set_cons_succ]
                      refine wpAnyH_take (i := 8) (oi := { dst := some 117, op := Op.move (Operand.tmp 13), type := 36, pos := "law.go:102", after := #[], guard := none }) (v := Value.slice (some ⟨g5, o5, none⟩) T ct) rfl (by kernel_rfl) (by kernel_rfl) (by kernel_rfl) (fun _ _ _ h => h) (Or.inl ⟨by rfl, ?hy⟩) (by assumption) ?_
                      case hy => (intro wz hSw; (try dsimp only at hSw); go_simp)
                      simp only [Act.put, List.setIfInBounds_toArray, List.set_cons_zero, List.set_cons_succ]
                      refine wpAnyH_take (i := 9) (oi := { dst := some 118, op := Op.move (Operand.tmp 14), type := 3, pos := "law.go:102", after := #[], guard := none }) (v := Value.int .i64 ((j : Int) + 1)) rfl (by kernel_rfl) (by kernel_rfl) (by kernel_rfl) (fun _ _ _ h => h) (Or.inl ⟨by rfl, ?hy⟩) (by assumption) ?_
                      case hy => (intro wz hSw; (try dsimp only at hSw); go_simp)
                      simp only [Act.put, List.setIfInBounds_toArray, List.set_cons_zero, List.set_cons_succ]
                      refine wpAnyH_take (i := 10) (oi := { dst := some 119, op := Op.indexAddr 36 (Operand.tmp 117) (Operand.tmp 118), type := 0, pos := "law.go:102", after := #[{ on := 8, ground := Ground.data }, { on := 9, ground := Ground.data }], guard := none }) (v := Value.pointer (some ⟨g5, o5 + (j + 1), none⟩)) rfl (by kernel_rfl) (by kernel_rfl) (by kernel_rfl) (fun _ _ _ h => h) (Or.inl ⟨by rfl, ?hy⟩) (by assumption) ?_
                      case hy => (intro wz hSw; (try dsimp only at hSw); go_simp)
                      simp only [Act.put, List.setIfInBounds_toArray, List.set_cons_zero, List.set_cons_succ]
                      refine wpAnyH_take (i := 11) (oi := { dst := some 120, op := Op.load 3 (Operand.tmp 119), type := 3, pos := "law.go:102", after := #[{ on := 10, ground := Ground.data }], guard := none }) (v := Value.int .i64 x) rfl (by kernel_rfl) (by kernel_rfl) (by kernel_rfl) (fun _ _ _ h => h) (Or.inl ⟨by rfl, ?hy⟩) (by assumption) ?_
                      case hy => (intro wz hSw; (try dsimp only at hSw); go_simp)
                      simp only [Act.put, List.setIfInBounds_toArray, List.set_cons_zero, List.set_cons_succ]
                      refine wpAnyH_ready (rs := [12]) (by kernel_rfl) (by simp) ?_
                      refine AllReadyH.cons (o := { dst := some 121, op := Op.call { callee := Callee.value (Operand.func 18), args := #[Operand.tmp 116, Operand.tmp 120], argTypes := #[54, 3] }, type := 4, pos := "law.go:102", after := #[{ on := 7, ground := Ground.data }, { on := 11, ground := Ground.data }], guard := none }) rfl (fun K0 hK0 => ?_) AllReadyH.nil
                      go_simp
                      go_at_call 18
                      with_reducible refine (QH.out _ lk).mono ?_
                      rintro e wA ⟨rfl, lk2⟩
                      replace lk := lk2
                      clear lk2
                      go_wp2_with fail
                      refine hK0.out _ _ (⟨cell_blw lk M1.out, cell_blw lk B0.out, cell_blw lk K1t.out, cell_blw lk K2t.out, cell_blw lk T0.out, cell_blw lk T1.out⟩) (fun hHeld => ?_)
                      clear hK0 K0
                      try simp only [Act.put, List.setIfInBounds_toArray, List.set_cons_zero, List.set_cons_succ]
                      refine wpAnyH_take (i := 13) (oi := { dst := some 122, op := Op.unOp UnOp.not 4 (Operand.tmp 121), type := 4, pos := "law.go:102", after := #[{ on := 12, ground := Ground.data }], guard := none }) (v := Value.bool false) rfl (by kernel_rfl) (by kernel_rfl) (by kernel_rfl) (fun _ _ _ h => h) (Or.inl ⟨by rfl, ?hy⟩) (by assumption) ?_
                      case hy => (intro wz hSw; (try dsimp only at hSw); go_simp)
                      simp only [Act.put, List.setIfInBounds_toArray, List.set_cons_zero, List.set_cons_succ]
                      refine wpAnyH_take (i := 14) (oi := { dst := some 123, op := Op.move (Operand.tmp 122), type := 4, pos := "law.go:102", after := #[{ on := 13, ground := Ground.data }, { on := 12, ground := Ground.chain }], guard := none }) (v := Value.bool false) rfl (by kernel_rfl) (by kernel_rfl) (by kernel_rfl) (fun _ _ _ h => h) (Or.inl ⟨by rfl, ?hy⟩) (by assumption) ?_
                      case hy => (intro wz hSw; (try dsimp only at hSw); go_simp)
                      simp only [Act.put, List.setIfInBounds_toArray, List.set_cons_zero, List.set_cons_succ]
                      refine wpAnyH_take (i := 15) (oi := { dst := some 124, op := Op.move (Operand.tmp 14), type := 3, pos := "law.go:102", after := #[{ on := 14, ground := Ground.guard }], guard := some (14, false) }) (v := Value.int .i64 ((j : Int) + 1)) rfl (by kernel_rfl) (by kernel_rfl) (by kernel_rfl) (fun _ _ _ h => h) (Or.inl ⟨by rfl, ?hy⟩) (by assumption) ?_
                      case hy => (intro wz hSw; (try dsimp only at hSw); go_simp)
                      simp only [Act.put, List.setIfInBounds_toArray, List.set_cons_zero, List.set_cons_succ]
                      refine wpAnyH_take (i := 16) (oi := { dst := some 125, op := Op.binOp BinOp.gtr 3 (Operand.tmp 124) (Operand.const (Value.int IntKind.i64 0)) 3, type := 4, pos := "law.go:102", after := #[{ on := 15, ground := Ground.data }, { on := 14, ground := Ground.guard }], guard := some (14, false) }) (v := Value.bool true) rfl (by kernel_rfl) (by kernel_rfl) (by kernel_rfl) (fun _ _ _ h => h) (Or.inl ⟨by rfl, ?hy⟩) (by assumption) ?_
                      case hy => (intro wz hSw; (try dsimp only at hSw); go_simp)
                      simp only [Act.put, List.setIfInBounds_toArray, List.set_cons_zero, List.set_cons_succ]
                      refine wpAnyH_take (i := 17) (oi := { dst := some 126, op := Op.move (Operand.tmp 125), type := 4, pos := "law.go:102", after := #[{ on := 16, ground := Ground.data }, { on := 14, ground := Ground.chain }, { on := 14, ground := Ground.guard }], guard := some (14, false) }) (v := Value.bool true) rfl (by kernel_rfl) (by kernel_rfl) (by kernel_rfl) (fun _ _ _ h => h) (Or.inl ⟨by rfl, ?hy⟩) (by assumption) ?_
                      case hy => (intro wz hSw; (try dsimp only at hSw); go_simp)
                      simp only [Act.put, List.setIfInBounds_toArray, List.set_cons_zero, List.set_cons_succ]
                      refine wpAnyH_take (i := 18) (oi := { dst := some 127, op := Op.move (Operand.tmp 13), type := 36, pos := "law.go:102", after := #[{ on := 17, ground := Ground.guard }], guard := some (17, true) }) (v := Value.slice (some ⟨g5, o5, none⟩) T ct) rfl (by kernel_rfl) (by kernel_rfl) (by kernel_rfl) (fun _ _ _ h => h) (Or.inl ⟨by rfl, ?hy⟩) (by assumption) ?_
                      case hy => (intro wz hSw; (try dsimp only at hSw); go_simp)
                      simp only [Act.put, List.setIfInBounds_toArray, List.set_cons_zero, List.set_cons_succ]
                      refine wpAnyH_take (i := 19) (oi := { dst := some 128, op := Op.move (Operand.tmp 14), type := 3, pos := "law.go:102", after := #[{ on := 17, ground := Ground.guard }], guard := some (17, true) }) (v := Value.int .i64 ((j : Int) + 1)) rfl (by kernel_rfl) (by kernel_rfl) (by kernel_rfl) (fun _ _ _ h => h) (Or.inl ⟨by rfl, ?hy⟩) (by assumption) ?_
                      case hy => (intro wz hSw; (try dsimp only at hSw); go_simp)
                      simp only [Act.put, List.setIfInBounds_toArray, List.set_cons_zero, List.set_cons_succ]
                      refine wpAnyH_take (i := 20) (oi := { dst := some 129, op := Op.indexAddr 36 (Operand.tmp 127) (Operand.tmp 128), type := 0, pos := "law.go:102", after := #[{ on := 18, ground := Ground.data }, { on := 19, ground := Ground.data }, { on := 17, ground := Ground.guard }], guard := some (17, true) }) (v := Value.pointer (some ⟨g5, o5 + (j + 1), none⟩)) rfl (by kernel_rfl) (by kernel_rfl) (by kernel_rfl) (fun _ _ _ h => h) (Or.inl ⟨by rfl, ?hy⟩) (by assumption) ?_
                      case hy => (intro wz hSw; (try dsimp only at hSw); go_simp)
                      simp only [Act.put, List.setIfInBounds_toArray, List.set_cons_zero, List.set_cons_succ]
                      refine wpAnyH_take (i := 21) (oi := { dst := some 130, op := Op.load 3 (Operand.tmp 129), type := 3, pos := "law.go:102", after := #[{ on := 20, ground := Ground.data }, { on := 17, ground := Ground.guard }], guard := some (17, true) }) (v := Value.int .i64 x) rfl (by kernel_rfl) (by kernel_rfl) (by kernel_rfl) (fun _ _ _ h => h) (Or.inl ⟨by rfl, ?hy⟩) (by assumption) ?_
                      case hy => (intro wz hSw; (try dsimp only at hSw); go_simp)
                      simp only [Act.put, List.setIfInBounds_toArray, List.set_cons_zero, List.set_cons_succ]
                      refine wpAnyH_take (i := 22) (oi := { dst := some 131, op := Op.move (Operand.tmp 13), type := 36, pos := "law.go:102", after := #[{ on := 17, ground := Ground.guard }], guard := some (17, true) }) (v := Value.slice (some ⟨g5, o5, none⟩) T ct) rfl (by kernel_rfl) (by kernel_rfl) (by kernel_rfl) (fun _ _ _ h => h) (Or.inl ⟨by rfl, ?hy⟩) (by assumption) ?_
                      case hy => (intro wz hSw; (try dsimp only at hSw); go_simp)
                      simp only [Act.put, List.setIfInBounds_toArray, List.set_cons_zero, List.set_cons_succ]
                      refine wpAnyH_take (i := 23) (oi := { dst := some 132, op := Op.move (Operand.tmp 14), type := 3, pos := "law.go:102", after := #[{ on := 17, ground := Ground.guard }], guard := some (17, true) }) (v := Value.int .i64 ((j : Int) + 1)) rfl (by kernel_rfl) (by kernel_rfl) (by kernel_rfl) (fun _ _ _ h => h) (Or.inl ⟨by rfl, ?hy⟩) (by assumption) ?_
                      case hy => (intro wz hSw; (try dsimp only at hSw); go_simp)
                      simp only [Act.put, List.setIfInBounds_toArray, List.set_cons_zero, List.set_cons_succ]
                      refine wpAnyH_take (i := 24) (oi := { dst := some 133, op := Op.binOp BinOp.sub 3 (Operand.tmp 132) (Operand.const (Value.int IntKind.i64 1)) 3, type := 3, pos := "law.go:102", after := #[{ on := 23, ground := Ground.data }, { on := 17, ground := Ground.guard }], guard := some (17, true) }) (v := Value.int .i64 (j : Int)) rfl (by kernel_rfl) (by kernel_rfl) (by kernel_rfl) (fun _ _ _ h => h) (Or.inl ⟨by rfl, ?hy⟩) (by assumption) ?_
                      case hy => (intro wz hSw; (try dsimp only at hSw); go_simp)
                      simp only [Act.put, List.setIfInBounds_toArray, List.set_cons_zero, List.set_cons_succ]
                      refine wpAnyH_take (i := 25) (oi := { dst := some 134, op := Op.indexAddr 36 (Operand.tmp 131) (Operand.tmp 133), type := 0, pos := "law.go:102", after := #[{ on := 22, ground := Ground.data }, { on := 24, ground := Ground.data }, { on := 17, ground := Ground.guard }], guard := some (17, true) }) (v := Value.pointer (some ⟨g5, o5 + j, none⟩)) rfl (by kernel_rfl) (by kernel_rfl) (by kernel_rfl) (fun _ _ _ h => h) (Or.inl ⟨by rfl, ?hy⟩) (by assumption) ?_
                      case hy => (intro wz hSw; (try dsimp only at hSw); go_simp)
                      simp only [Act.put, List.setIfInBounds_toArray, List.set_cons_zero, List.set_cons_succ]
                      refine wpAnyH_take (i := 26) (oi := { dst := some 135, op := Op.load 3 (Operand.tmp 134), type := 3, pos := "law.go:102", after := #[{ on := 25, ground := Ground.data }, { on := 17, ground := Ground.guard }], guard := some (17, true) }) (v := Value.int .i64 z) rfl (by kernel_rfl) (by kernel_rfl) (by kernel_rfl) (fun _ _ _ h => h) (Or.inl ⟨by rfl, ?hy⟩) (by assumption) ?_
                      case hy => (intro wz hSw; (try dsimp only at hSw); go_simp)
                      simp only [Act.put, List.setIfInBounds_toArray, List.set_cons_zero, List.set_cons_succ]
                      refine wpAnyH_take (i := 27) (oi := { dst := some 136, op := Op.binOp BinOp.leq 3 (Operand.tmp 130) (Operand.tmp 135) 3, type := 4, pos := "law.go:102", after := #[{ on := 21, ground := Ground.data }, { on := 26, ground := Ground.data }, { on := 17, ground := Ground.guard }], guard := some (17, true) }) (v := Value.bool false) rfl (by kernel_rfl) (by kernel_rfl) (by kernel_rfl) (fun _ _ _ h => h) (Or.inl ⟨by rfl, ?hy⟩) (by assumption) ?_
                      case hy => (intro wz hSw; (try dsimp only at hSw); go_simp)
                      simp only [Act.put, List.setIfInBounds_toArray, List.set_cons_zero, List.set_cons_succ]
                      refine wpAnyH_take (i := 28) (oi := { dst := some 137, op := Op.pick (Operand.tmp 126) (Operand.tmp 136) (Operand.const (Value.bool false)), type := 4, pos := "law.go:102", after := #[{ on := 17, ground := Ground.data }, { on := 27, ground := Ground.data }, { on := 14, ground := Ground.guard }], guard := some (14, false) }) (v := Value.bool false) rfl (by kernel_rfl) (by kernel_rfl) (by kernel_rfl) (fun _ _ _ h => h) (Or.inl ⟨by rfl, ?hy⟩) (by assumption) ?_
                      case hy => (intro wz hSw; (try dsimp only at hSw); go_simp)
                      simp only [Act.put, List.setIfInBounds_toArray, List.set_cons_zero, List.set_cons_succ]
                      refine wpAnyH_take (i := 29) (oi := { dst := some 138, op := Op.pick (Operand.tmp 123) (Operand.const (Value.bool true)) (Operand.tmp 137), type := 4, pos := "law.go:102", after := #[{ on := 14, ground := Ground.data }, { on := 28, ground := Ground.data }], guard := none }) (v := Value.bool false) rfl (by kernel_rfl) (by kernel_rfl) (by kernel_rfl) (fun _ _ _ h => h) (Or.inl ⟨by rfl, ?hy⟩) (by assumption) ?_
                      case hy => (intro wz hSw; (try dsimp only at hSw); go_simp)
                      simp only [Act.put, List.setIfInBounds_toArray, List.set_cons_zero, List.set_cons_succ]
                      refine wpAnyH_done (by kernel_rfl) ?_ _
                      go_wp2
                      go_roundw
                      case rel => exact ⟨j + 1 + 1, by go_num, by omega, lk⟩
                      case measure => simp [intOf]; omega
                    · have e5 : decide (0 < i) = false := by simp; omega
                      obtain rfl : i = 0 := by omega
                      rw [Nat.add_zero] at t0
                      obtain ⟨x, hx⟩ : ∃ x, x = tl[0] := ⟨_, rfl⟩
                      rw [← hx] at t0 HHAS
                      have T0 := Lib.hid t0
                      have QH := Lib.hid (fun (W : World) (hb : Below wt.heap.size wt W) => (has_any (act := act) (cap := cap2) x W ((HML.out.below HBT.out).below hb) (by rw [← HMM.out]; exact hmk)).mono (fun e w' (h : e = .returned (.bool (decide (x ∈ mv.map MvO.to))) ∧ Below W.heap.size W w') => (⟨by rw [h.1, decide_eq_true HHAS.out], below_t hb h.2⟩ : e = .returned (.bool true) ∧ Below wt.heap.size wt w')))
                      rw [← HMM.out] at QH
                      clear hx t0 hil HIL
                      go_upto_region 21 with fail
                      have lk := hb.drew
                      clear hb
                      refine wp_region_held_drew (S := (fun w' : World => w'.cell? ⟨w.heap.size, 1, none⟩ = some (.slice (some ⟨gA, oA, none⟩) N v.a) ∧ w'.cell? ⟨gA, oA + s, none⟩ = some (.slice (some ⟨g2, o2, none⟩) K cap1) ∧ w'.cell? ⟨g2, o2 + c * 2, none⟩ = some (.string act) ∧ w'.cell? ⟨g2, o2 + c * 2 + 1, none⟩ = some (.slice B2 M cap2) ∧ w'.cell? ⟨g5, o5, none⟩ = some (.int .i64 x))) (by kernel_rfl) (⟨cell_blw lk M1.out, cell_blw lk B0.out, cell_blw lk K1t.out, cell_blw lk K2t.out, cell_blw lk T0.out⟩) (fun hHeld => ?_)
                      refine wpAnyH_take (i := 0) (oi := { dst := some 109, op := Op.fieldAddr 26 (Operand.tmp 2) 1, type := 0, pos := "law.go:102", after := #[], guard := none }) (v := Value.pointer (some ⟨w.heap.size, 1, none⟩)) rfl (by kernel_rfl) (by kernel_rfl) (by kernel_rfl) (fun _ _ _ h => h) (Or.inl ⟨by rfl, ?hy⟩) (by assumption) ?_
                      case hy => (intro wz hSw; (try dsimp only at hSw); go_simp)
                      simp only [Act.put, List.setIfInBounds_toArray, List.set_cons_zero, List.set_cons_succ]
                      refine wpAnyH_take (i := 1) (oi := { dst := some 110, op := Op.load 22 (Operand.tmp 109), type := 22, pos := "law.go:102", after := #[{ on := 0, ground := Ground.data }], guard := none }) (v := Value.slice (some ⟨gA, oA, none⟩) N v.a) rfl (by kernel_rfl) (by kernel_rfl) (by kernel_rfl) (fun _ _ _ h => h) (Or.inl ⟨by rfl, ?hy⟩) (by assumption) ?_
                      case hy => (intro wz hSw; (try dsimp only at hSw); go_simp)
                      simp only [Act.put, List.setIfInBounds_toArray, List.set_cons_zero, List.set_cons_succ]
                      refine wpAnyH_take (i := 2) (oi := { dst := some 111, op := Op.move (Operand.tmp 11), type := 3, pos := "law.go:102", after := #[], guard := none }) (v := Value.int .i64 (s : Int)) rfl (by kernel_rfl) (by kernel_rfl) (by kernel_rfl) (fun _ _ _ h => h) (Or.inl ⟨by rfl, ?hy⟩) (by assumption) ?_
                      case hy => (intro wz hSw; (try dsimp only at hSw); go_simp)
                      simp only [Act.put, List.setIfInBounds_toArray, List.set_cons_zero, List.set_cons_succ]
                      refine wpAnyH_take (i := 3) (oi := { dst := some 112, op := Op.indexAddr 22 (Operand.tmp 110) (Operand.tmp 111), type := 0, pos := "law.go:102", after := #[{ on := 1, ground := Ground.data }, { on := 2, ground := Ground.data }], guard := none }) (v := Value.pointer (some ⟨gA, oA + s, none⟩)) rfl (by kernel_rfl) (by kernel_rfl) (by kernel_rfl) (fun _ _ _ h => h) (Or.inl ⟨by rfl, ?hy⟩) (by assumption) ?_
                      case hy => (intro wz hSw; (try dsimp only at hSw); go_simp)
                      simp only [Act.put, List.setIfInBounds_toArray, List.set_cons_zero, List.set_cons_succ]
                      refine wpAnyH_take (i := 4) (oi := { dst := some 113, op := Op.load 45 (Operand.tmp 112), type := 45, pos := "law.go:102", after := #[{ on := 3, ground := Ground.data }], guard := none }) (v := Value.slice (some ⟨g2, o2, none⟩) K cap1) rfl (by kernel_rfl) (by kernel_rfl) (by kernel_rfl) (fun _ _ _ h => h) (Or.inl ⟨by rfl, ?hy⟩) (by assumption) ?_
                      case hy => (intro wz hSw; (try dsimp only at hSw); go_simp)
                      simp only [Act.put, List.setIfInBounds_toArray, List.set_cons_zero, List.set_cons_succ]
                      refine wpAnyH_take (i := 5) (oi := { dst := some 114, op := Op.move (Operand.tmp 12), type := 3, pos := "law.go:102", after := #[], guard := none }) (v := Value.int .i64 (c : Int)) rfl (by kernel_rfl) (by kernel_rfl) (by kernel_rfl) (fun _ _ _ h => h) (Or.inl ⟨by rfl, ?hy⟩) (by assumption) ?_
                      case hy => (intro wz hSw; (try dsimp only at hSw); go_simp)
                      simp only [Act.put, List.setIfInBounds_toArray, List.set_cons_zero, List.set_cons_succ]
                      refine wpAnyH_take (i := 6) (oi := { dst := some 115, op := Op.indexAddr 45 (Operand.tmp 113) (Operand.tmp 114), type := 0, pos := "law.go:102", after := #[{ on := 4, ground := Ground.data }, { on := 5, ground := Ground.data }], guard := none }) (v := Value.pointer (some ⟨g2, o2 + c * 2, none⟩)) rfl (by kernel_rfl) (by kernel_rfl) (by kernel_rfl) (fun _ _ _ h => h) (Or.inl ⟨by rfl, ?hy⟩) (by assumption) ?_
                      case hy => (intro wz hSw; (try dsimp only at hSw); go_simp)
                      simp only [Act.put, List.setIfInBounds_toArray, List.set_cons_zero, List.set_cons_succ]
                      refine wpAnyH_take (i := 7) (oi := { dst := some 116, op := Op.load 54 (Operand.tmp 115), type := 54, pos := "law.go:102", after := #[{ on := 6, ground := Ground.data }], guard := none }) (v := (Value.agg #[.string act, .slice B2 M cap2])) rfl (by kernel_rfl) (by kernel_rfl) (by kernel_rfl) (fun _ _ _ h => h) (Or.inl ⟨by rfl, ?hy⟩) (by assumption) ?_
                      case hy => (intro wz hSw; (try dsimp only at hSw); go_simp)
                      simp only [Act.put, List.setIfInBounds_toArray, List.set_cons_zero, List.set_cons_succ]
                      refine wpAnyH_take (i := 8) (oi := { dst := some 117, op := Op.move (Operand.tmp 13), type := 36, pos := "law.go:102", after := #[], guard := none }) (v := Value.slice (some ⟨g5, o5, none⟩) T ct) rfl (by kernel_rfl) (by kernel_rfl) (by kernel_rfl) (fun _ _ _ h => h) (Or.inl ⟨by rfl, ?hy⟩) (by assumption) ?_
                      case hy => (intro wz hSw; (try dsimp only at hSw); go_simp)
                      simp only [Act.put, List.setIfInBounds_toArray, List.set_cons_zero, List.set_cons_succ]
                      refine wpAnyH_take (i := 9) (oi := { dst := some 118, op := Op.move (Operand.tmp 14), type := 3, pos := "law.go:102", after := #[], guard := none }) (v := Value.int .i64 0) rfl (by kernel_rfl) (by kernel_rfl) (by kernel_rfl) (fun _ _ _ h => h) (Or.inl ⟨by rfl, ?hy⟩) (by assumption) ?_
                      case hy => (intro wz hSw; (try dsimp only at hSw); go_simp)
                      simp only [Act.put, List.setIfInBounds_toArray, List.set_cons_zero, List.set_cons_succ]
                      refine wpAnyH_take (i := 10) (oi := { dst := some 119, op := Op.indexAddr 36 (Operand.tmp 117) (Operand.tmp 118), type := 0, pos := "law.go:102", after := #[{ on := 8, ground := Ground.data }, { on := 9, ground := Ground.data }], guard := none }) (v := Value.pointer (some ⟨g5, o5, none⟩)) rfl (by kernel_rfl) (by kernel_rfl) (by kernel_rfl) (fun _ _ _ h => h) (Or.inl ⟨by rfl, ?hy⟩) (by assumption) ?_
                      case hy => (intro wz hSw; (try dsimp only at hSw); go_simp)
                      simp only [Act.put, List.setIfInBounds_toArray, List.set_cons_zero, List.set_cons_succ]
                      refine wpAnyH_take (i := 11) (oi := { dst := some 120, op := Op.load 3 (Operand.tmp 119), type := 3, pos := "law.go:102", after := #[{ on := 10, ground := Ground.data }], guard := none }) (v := Value.int .i64 x) rfl (by kernel_rfl) (by kernel_rfl) (by kernel_rfl) (fun _ _ _ h => h) (Or.inl ⟨by rfl, ?hy⟩) (by assumption) ?_
                      case hy => (intro wz hSw; (try dsimp only at hSw); go_simp)
                      simp only [Act.put, List.setIfInBounds_toArray, List.set_cons_zero, List.set_cons_succ]
                      refine wpAnyH_ready (rs := [12]) (by kernel_rfl) (by simp) ?_
                      refine AllReadyH.cons (o := { dst := some 121, op := Op.call { callee := Callee.value (Operand.func 18), args := #[Operand.tmp 116, Operand.tmp 120], argTypes := #[54, 3] }, type := 4, pos := "law.go:102", after := #[{ on := 7, ground := Ground.data }, { on := 11, ground := Ground.data }], guard := none }) rfl (fun K0 hK0 => ?_) AllReadyH.nil
                      go_simp
                      go_at_call 18
                      with_reducible refine (QH.out _ lk).mono ?_
                      rintro e wA ⟨rfl, lk2⟩
                      replace lk := lk2
                      clear lk2
                      go_wp2_with fail
                      refine hK0.out _ _ (⟨cell_blw lk M1.out, cell_blw lk B0.out, cell_blw lk K1t.out, cell_blw lk K2t.out, cell_blw lk T0.out⟩) (fun hHeld => ?_)
                      clear hK0 K0
                      try simp only [Act.put, List.setIfInBounds_toArray, List.set_cons_zero, List.set_cons_succ]
                      refine wpAnyH_take (i := 13) (oi := { dst := some 122, op := Op.unOp UnOp.not 4 (Operand.tmp 121), type := 4, pos := "law.go:102", after := #[{ on := 12, ground := Ground.data }], guard := none }) (v := Value.bool false) rfl (by kernel_rfl) (by kernel_rfl) (by kernel_rfl) (fun _ _ _ h => h) (Or.inl ⟨by rfl, ?hy⟩) (by assumption) ?_
                      case hy => (intro wz hSw; (try dsimp only at hSw); go_simp)
                      simp only [Act.put, List.setIfInBounds_toArray, List.set_cons_zero, List.set_cons_succ]
                      refine wpAnyH_take (i := 14) (oi := { dst := some 123, op := Op.move (Operand.tmp 122), type := 4, pos := "law.go:102", after := #[{ on := 13, ground := Ground.data }, { on := 12, ground := Ground.chain }], guard := none }) (v := Value.bool false) rfl (by kernel_rfl) (by kernel_rfl) (by kernel_rfl) (fun _ _ _ h => h) (Or.inl ⟨by rfl, ?hy⟩) (by assumption) ?_
                      case hy => (intro wz hSw; (try dsimp only at hSw); go_simp)
                      simp only [Act.put, List.setIfInBounds_toArray, List.set_cons_zero, List.set_cons_succ]
                      refine wpAnyH_take (i := 15) (oi := { dst := some 124, op := Op.move (Operand.tmp 14), type := 3, pos := "law.go:102", after := #[{ on := 14, ground := Ground.guard }], guard := some (14, false) }) (v := Value.int .i64 0) rfl (by kernel_rfl) (by kernel_rfl) (by kernel_rfl) (fun _ _ _ h => h) (Or.inl ⟨by rfl, ?hy⟩) (by assumption) ?_
                      case hy => (intro wz hSw; (try dsimp only at hSw); go_simp)
                      simp only [Act.put, List.setIfInBounds_toArray, List.set_cons_zero, List.set_cons_succ]
                      refine wpAnyH_take (i := 16) (oi := { dst := some 125, op := Op.binOp BinOp.gtr 3 (Operand.tmp 124) (Operand.const (Value.int IntKind.i64 0)) 3, type := 4, pos := "law.go:102", after := #[{ on := 15, ground := Ground.data }, { on := 14, ground := Ground.guard }], guard := some (14, false) }) (v := Value.bool false) rfl (by kernel_rfl) (by kernel_rfl) (by kernel_rfl) (fun _ _ _ h => h) (Or.inl ⟨by rfl, ?hy⟩) (by assumption) ?_
                      case hy => (intro wz hSw; (try dsimp only at hSw); go_simp)
                      simp only [Act.put, List.setIfInBounds_toArray, List.set_cons_zero, List.set_cons_succ]
                      refine wpAnyH_take (i := 17) (oi := { dst := some 126, op := Op.move (Operand.tmp 125), type := 4, pos := "law.go:102", after := #[{ on := 16, ground := Ground.data }, { on := 14, ground := Ground.chain }, { on := 14, ground := Ground.guard }], guard := some (14, false) }) (v := Value.bool false) rfl (by kernel_rfl) (by kernel_rfl) (by kernel_rfl) (fun _ _ _ h => h) (Or.inl ⟨by rfl, ?hy⟩) (by assumption) ?_
                      case hy => (intro wz hSw; (try dsimp only at hSw); go_simp)
                      simp only [Act.put, List.setIfInBounds_toArray, List.set_cons_zero, List.set_cons_succ]
                      refine wpAnyH_take (i := 18) (oi := { dst := some 127, op := Op.move (Operand.tmp 13), type := 36, pos := "law.go:102", after := #[{ on := 17, ground := Ground.guard }], guard := some (17, true) }) (v := undef) rfl (by kernel_rfl) (by kernel_rfl) (by kernel_rfl) (fun _ _ _ h => h) (Or.inr ⟨by rfl, rfl⟩) (by assumption) ?_
                      simp only [Act.put, List.setIfInBounds_toArray, List.set_cons_zero, List.set_cons_succ]
                      refine wpAnyH_take (i := 19) (oi := { dst := some 128, op := Op.move (Operand.tmp 14), type := 3, pos := "law.go:102", after := #[{ on := 17, ground := Ground.guard }], guard := some (17, true) }) (v := undef) rfl (by kernel_rfl) (by kernel_rfl) (by kernel_rfl) (fun _ _ _ h => h) (Or.inr ⟨by rfl, rfl⟩) (by assumption) ?_
                      simp only [Act.put, List.setIfInBounds_toArray, List.set_cons_zero, List.set_cons_succ]
                      refine wpAnyH_take (i := 20) (oi := { dst := some 129, op := Op.indexAddr 36 (Operand.tmp 127) (Operand.tmp 128), type := 0, pos := "law.go:102", after := #[{ on := 18, ground := Ground.data }, { on := 19, ground := Ground.data }, { on := 17, ground := Ground.guard }], guard := some (17, true) }) (v := undef) rfl (by kernel_rfl) (by kernel_rfl) (by kernel_rfl) (fun _ _ _ h => h) (Or.inr ⟨by rfl, rfl⟩) (by assumption) ?_
                      simp only [Act.put, List.setIfInBounds_toArray, List.set_cons_zero, List.set_cons_succ]
                      refine wpAnyH_take (i := 21) (oi := { dst := some 130, op := Op.load 3 (Operand.tmp 129), type := 3, pos := "law.go:102", after := #[{ on := 20, ground := Ground.data }, { on := 17, ground := Ground.guard }], guard := some (17, true) }) (v := undef) rfl (by kernel_rfl) (by kernel_rfl) (by kernel_rfl) (fun _ _ _ h => h) (Or.inr ⟨by rfl, rfl⟩) (by assumption) ?_
                      simp only [Act.put, List.setIfInBounds_toArray, List.set_cons_zero, List.set_cons_succ]
                      refine wpAnyH_take (i := 22) (oi := { dst := some 131, op := Op.move (Operand.tmp 13), type := 36, pos := "law.go:102", after := #[{ on := 17, ground := Ground.guard }], guard := some (17, true) }) (v := undef) rfl (by kernel_rfl) (by kernel_rfl) (by kernel_rfl) (fun _ _ _ h => h) (Or.inr ⟨by rfl, rfl⟩) (by assumption) ?_
                      simp only [Act.put, List.setIfInBounds_toArray, List.set_cons_zero, List.set_cons_succ]
                      refine wpAnyH_take (i := 23) (oi := { dst := some 132, op := Op.move (Operand.tmp 14), type := 3, pos := "law.go:102", after := #[{ on := 17, ground := Ground.guard }], guard := some (17, true) }) (v := undef) rfl (by kernel_rfl) (by kernel_rfl) (by kernel_rfl) (fun _ _ _ h => h) (Or.inr ⟨by rfl, rfl⟩) (by assumption) ?_
                      simp only [Act.put, List.setIfInBounds_toArray, List.set_cons_zero, List.set_cons_succ]
                      refine wpAnyH_take (i := 24) (oi := { dst := some 133, op := Op.binOp BinOp.sub 3 (Operand.tmp 132) (Operand.const (Value.int IntKind.i64 1)) 3, type := 3, pos := "law.go:102", after := #[{ on := 23, ground := Ground.data }, { on := 17, ground := Ground.guard }], guard := some (17, true) }) (v := undef) rfl (by kernel_rfl) (by kernel_rfl) (by kernel_rfl) (fun _ _ _ h => h) (Or.inr ⟨by rfl, rfl⟩) (by assumption) ?_
                      simp only [Act.put, List.setIfInBounds_toArray, List.set_cons_zero, List.set_cons_succ]
                      refine wpAnyH_take (i := 25) (oi := { dst := some 134, op := Op.indexAddr 36 (Operand.tmp 131) (Operand.tmp 133), type := 0, pos := "law.go:102", after := #[{ on := 22, ground := Ground.data }, { on := 24, ground := Ground.data }, { on := 17, ground := Ground.guard }], guard := some (17, true) }) (v := undef) rfl (by kernel_rfl) (by kernel_rfl) (by kernel_rfl) (fun _ _ _ h => h) (Or.inr ⟨by rfl, rfl⟩) (by assumption) ?_
                      simp only [Act.put, List.setIfInBounds_toArray, List.set_cons_zero, List.set_cons_succ]
                      refine wpAnyH_take (i := 26) (oi := { dst := some 135, op := Op.load 3 (Operand.tmp 134), type := 3, pos := "law.go:102", after := #[{ on := 25, ground := Ground.data }, { on := 17, ground := Ground.guard }], guard := some (17, true) }) (v := undef) rfl (by kernel_rfl) (by kernel_rfl) (by kernel_rfl) (fun _ _ _ h => h) (Or.inr ⟨by rfl, rfl⟩) (by assumption) ?_
                      simp only [Act.put, List.setIfInBounds_toArray, List.set_cons_zero, List.set_cons_succ]
                      refine wpAnyH_take (i := 27) (oi := { dst := some 136, op := Op.binOp BinOp.leq 3 (Operand.tmp 130) (Operand.tmp 135) 3, type := 4, pos := "law.go:102", after := #[{ on := 21, ground := Ground.data }, { on := 26, ground := Ground.data }, { on := 17, ground := Ground.guard }], guard := some (17, true) }) (v := undef) rfl (by kernel_rfl) (by kernel_rfl) (by kernel_rfl) (fun _ _ _ h => h) (Or.inr ⟨by rfl, rfl⟩) (by assumption) ?_
                      simp only [Act.put, List.setIfInBounds_toArray, List.set_cons_zero, List.set_cons_succ]
                      refine wpAnyH_take (i := 28) (oi := { dst := some 137, op := Op.pick (Operand.tmp 126) (Operand.tmp 136) (Operand.const (Value.bool false)), type := 4, pos := "law.go:102", after := #[{ on := 17, ground := Ground.data }, { on := 27, ground := Ground.data }, { on := 14, ground := Ground.guard }], guard := some (14, false) }) (v := Value.bool false) rfl (by kernel_rfl) (by kernel_rfl) (by kernel_rfl) (fun _ _ _ h => h) (Or.inl ⟨by rfl, ?hy⟩) (by assumption) ?_
                      case hy => (intro wz hSw; (try dsimp only at hSw); go_simp)
                      simp only [Act.put, List.setIfInBounds_toArray, List.set_cons_zero, List.set_cons_succ]
                      refine wpAnyH_take (i := 29) (oi := { dst := some 138, op := Op.pick (Operand.tmp 123) (Operand.const (Value.bool true)) (Operand.tmp 137), type := 4, pos := "law.go:102", after := #[{ on := 14, ground := Ground.data }, { on := 28, ground := Ground.data }], guard := none }) (v := Value.bool false) rfl (by kernel_rfl) (by kernel_rfl) (by kernel_rfl) (fun _ _ _ h => h) (Or.inl ⟨by rfl, ?hy⟩) (by assumption) ?_
                      case hy => (intro wz hSw; (try dsimp only at hSw); go_simp)
                      simp only [Act.put, List.setIfInBounds_toArray, List.set_cons_zero, List.set_cons_succ]
                      refine wpAnyH_done (by kernel_rfl) ?_ _
                      go_wp2
                      go_roundw
                      case rel => exact ⟨1, by go_num, by omega, lk⟩
                      case measure => simp [intOf]; omega
                  · have e3 : decide (i < T) = false := by simp; omega
                    have HB1 := Lib.hid (below_t HBT.out hb)
                    have HBt := Lib.hid hb
                    clear hiT hil hb
                    go_wp2
                    go_loopw [15] (fun i W => RdR M wt i W) (fun i _ => M - (intOf i).toNat)
                    case atStart => exact ⟨0, rfl, Nat.zero_le _, HBt.out⟩
                    case round =>
                      clear HB1 HBt
                      obtain ⟨i, rfl, hil, hb⟩ := hrel
                      have HB1 := Lib.hid (below_t HBT.out hb)
                      have HBt := Lib.hid hb
                      have y1 := cell_blw HB1.out m1
                      have b0 := cell_blw HB1.out A0.out
                      have k2 := cell_blw HB1.out K2.out
                      have k2' := k2
                      rw [← Nat.add_assoc] at k2'
                      clear hb
                      by_cases hiM : i < M
                      · have e4 : decide (i < M) = true := by simp; omega
                        have ki : i < mv.length := by rw [← HMM.out]; exact hiM
                        obtain ⟨g6, o6, rfl, n1, -⟩ := HML.out i ki
                        have HZL := Lib.hid HML
                        clear HML hil
                        have HIN := Lib.hid (show mv[i].to ∈ tl from (HTI.out _).2 (List.mem_map.2 ⟨_, List.getElem_mem ki, rfl⟩))
                        obtain ⟨tz, htz⟩ : ∃ z, z = mv[i].to := ⟨_, rfl⟩
                        rw [← htz] at n1 HIN
                        have N1 := Lib.hid n1
                        clear htz n1
                        go_wp2
                        go_loopw [16, 17] (fun b j W => FnR tl tz wt b j W) (fun _ j _ => T - (intOf j).toNat)
                        case atStart => exact ⟨0, rfl, Nat.zero_le _, by simp, HBt.out⟩
                        case round =>
                          clear HB1 HBt y1 b0 k2 k2'
                          obtain ⟨j, rfl, hjl, rfl, hb⟩ := hrel
                          have HB1 := Lib.hid (below_t HBT.out hb)
                          have HBt := Lib.hid hb
                          have y1 := cell_blw HB1.out m1
                          have b0 := cell_blw HB1.out A0.out
                          have k2 := cell_blw HB1.out K2.out
                          have k2' := k2
                          rw [← Nat.add_assoc] at k2'
                          have n1 := cell_blw HB1.out N1.out
                          clear hb
                          by_cases hjT : j < T
                          · have e5 : decide (j < T) = true := by simp; omega
                            have kj : j < tl.length := by rw [← HTT.out]; exact hjT
                            obtain ⟨g5, o5, rfl, t0⟩ := HIL.out j kj
                            have HZI := Lib.hid HIL
                            clear HIL hjl
                            replace t0 := cell_blw HBt.out t0
                            by_cases hf : tz ∈ tl.take j
                            · have HF2 := Lib.hid (show decide (tz ∈ tl.take j) = true from decide_eq_true hf)
                              have HF3 := Lib.hid (show decide (tz ∈ tl.take (j + 1)) = true from decide_eq_true (by rw [take_snoc kj, List.mem_append]; exact .inl hf))
                              rw [HF2.out]
                              clear hf
                              go_wp2_with fail
                              go_quiet (fail)
                              go_wp2
                              go_roundw
                              case rel => exact ⟨j + 1, by go_num, by rw [← HTT.out]; omega, by rw [HF3.out], below_drewN HBt.out _⟩
                              case measure => simp [intOf]; omega
                            · have HF2 := Lib.hid (show decide (tz ∈ tl.take j) = false from decide_eq_false hf)
                              rw [HF2.out]
                              have HNF := Lib.hid hf
                              clear hf
                              by_cases he : tl[j] = tz
                              · have q : (tz == tz) = true := by simp
                                have HF3 := Lib.hid (show decide (tz ∈ tl.take (j + 1)) = true from decide_eq_true (by rw [take_snoc kj, List.mem_append, List.mem_singleton]; exact .inr he.symm))
                                rw [he] at t0
                                clear he
                                go_wp2_with fail
                                go_quiet (fail)
                                go_wp2
                                go_roundw
                                case rel => exact ⟨j + 1, by go_num, by rw [← HTT.out]; omega, by rw [HF3.out], below_drewN HBt.out _⟩
                                case measure => simp [intOf]; omega
                              · have q : (tl[j] == tz) = false := by simp [he]
                                have HF3 := Lib.hid (show decide (tz ∈ tl.take (j + 1)) = false from decide_eq_false (by rw [take_snoc kj, List.mem_append, List.mem_singleton]; exact fun h => h.elim HNF.out (fun h => he h.symm)))
                                clear he
                                obtain ⟨x, hx⟩ : ∃ x, x = tl[j] := ⟨_, rfl⟩
                                rw [← hx] at t0 q
                                clear hx
                                go_wp2_with fail
                                go_quiet (fail)
                                go_wp2
                                go_roundw
                                case rel => exact ⟨j + 1, by go_num, by rw [← HTT.out]; omega, by rw [HF3.out], below_drewN HBt.out _⟩
                                case measure => simp [intOf]; omega
                          · have e5 : decide (j < T) = false := by simp; omega
                            have HF2 := Lib.hid (show decide (tz ∈ tl.take j) = true from decide_eq_true (by rw [List.take_of_length_le (by rw [← HTT.out]; omega)]; exact HIN.out))
                            rw [HF2.out]
                            clear hjT hjl
                            go_wp2
                            go_roundw
                            case rel => exact ⟨i + 1, by go_num, by omega, HBt.out⟩
                            case measure => simp [intOf]; omega
                      · have e4 : decide (i < M) = false := by simp; omega
                        clear hiM hil
                        go_wp2
                        go_roundw
                        case rel => exact ⟨c + 1, by go_num, by omega, HB1.out⟩
                        case measure => simp [intOf]; omega
              · have e2 : decide (c < K) = false := by simp; omega
                clear hcK hcl
                go_wp2
                go_roundw
                case rel => exact ⟨s + 1, by go_num, by omega, HB1.out⟩
                case measure => simp [intOf]; omega
          · have e1 : decide (s < N) = false := by simp; omega
            clear hsN hsl
            go_wp2
            go_ret
            exact ⟨rfl, below_t HB.out HB1.out⟩
end Go.Proofs.YtkgjpimapfmeoaaDoor
