/-
  isRight and Check, walked.
-/
import Derived.Test.YtkgjpimapfmeoaaDoorM4
import Derived.Test.YtkgjpimapfmeoaaDoorM5
namespace Go.Proofs.YtkgjpimapfmeoaaDoor
open Go.RowKit

/-- A process that is not too large to be looked at by a walk. -/
structure Sml (p : PrO) : Prop where
  ch : p.chs.length ≤ 1000000
  cs : ∀ cs ∈ p.chs, cs.length ≤ 1000000
  mv : ∀ cs ∈ p.chs, ∀ c ∈ cs, c.mv.length ≤ 1000000
  nm : p.nms.length ≤ 1000000
  hd : p.hds.length ≤ 1000000
  hs : ∀ h ∈ p.hds, h.length ≤ 1000000
/-- What a box with a process in it reads as. -/
theorem Bx.cells4 {w : World} {q : Nat} {t : TypeId} {a b c d : Value} (h : Bx w q t [a, b, c, d]) : w.cell? ⟨q, 0, none⟩ = some a ∧ w.cell? ⟨q, 1, none⟩ = some b ∧ w.cell? ⟨q, 2, none⟩ = some c ∧ w.cell? ⟨q, 3, none⟩ = some d :=
  ⟨h.cell 0, h.cell 1, h.cell 2, h.cell 3⟩
set_option maxHeartbeats 8000000 in
set_option maxRecDepth 100000 in
theorem right_any {p : PrO} {v : PV} (w : World) (hp : PrM w v p) (hs : Sml p) : Calls Tryd.prog 21 #[.agg (v.l p).toArray] w (BoolP (decide p.right) w) := by
  have HCH := Lib.hid hp.ch
  have HNM := Lib.hid hp.nm
  have HHD := Lib.hid hp.hd
  have HS := Lib.hid hs
  obtain ⟨n, hn⟩ : ∃ n, n = p.chs.length := ⟨_, rfl⟩
  obtain ⟨m, hm⟩ : ∃ m, m = p.nms.length := ⟨_, rfl⟩
  obtain ⟨k, hk⟩ : ∃ k, k = p.hds.length := ⟨_, rfl⟩
  have hn1 : n ≤ 1000000 := by rw [hn]; exact hs.ch
  have hm1 : m ≤ 1000000 := by rw [hm]; exact hs.nm
  have hk1 : k ≤ 1000000 := by rw [hk]; exact hs.hd
  have HN := Lib.hid hn
  have HM := Lib.hid hm
  have HK := Lib.hid hk
  have HR := Lib.hid (show p.right ↔ ((1 : Int) ≤ (n : Int) ∧ (n : Int) ≤ 4096 ∧ (0 ≤ p.init ∧ p.init < (n : Int)) ∧ (k : Int) = (n : Int) ∧ leadR n p.chs ∧ p.nms.Nodup ∧ holdsR m p.hds) by rw [hn, hm, hk]; exact Iff.rfl)
  show Calls Tryd.prog 21 #[.agg #[.int .i64 p.init, .slice v.A p.chs.length v.a, .slice v.B p.nms.length v.b, .slice v.C p.hds.length v.c]] w _
  rw [← hn, ← hm, ← hk]
  have HL := Lib.hid (fun (W : World) (hb : Below w.heap.size w W) => (lead_any (cap := v.a) W (HCH.out.below hb) HS.out.ch HS.out.cs HS.out.mv))
  have HD := Lib.hid (fun (W : World) (hb : Below w.heap.size w W) => (differ_any (cap := v.b) W (HNM.out.below hb) HS.out.nm))
  have HO := Lib.hid (fun (W : World) (hb : Below w.heap.size w W) => (hold_any (n := m) (cap := v.c) W (HHD.out.below hb) HS.out.hd HS.out.hs hm1))
  rw [← hn] at HL
  rw [← hm] at HD
  rw [← hk] at HO
  clear hp hs hn hm hk HCH HNM HHD HS
  generalize p.init = init at *
  generalize p.chs = chs at *
  generalize p.nms = nms at *
  generalize p.hds = hds at *
  obtain ⟨w0, hw0⟩ : ∃ w0, w0 = w.alloc (.cells #[.int .i64 init, .slice v.A n v.a, .slice v.B m v.b, .slice v.C k v.c] 31) := ⟨_, rfl⟩
  have HB0 := Lib.hid (show Below w.heap.size w w0 by rw [hw0]; exact below_alloc _ _)
  have HX0 := Lib.hid (show Bx w0 w.heap.size 31 [.int .i64 init, .slice v.A n v.a, .slice v.B m v.b, .slice v.C k v.c] by rw [hw0]; exact Bx.new _ _ _)
  have HW0 := Lib.hid hw0
  clear hw0
  by_cases h1 : (1 : Int) ≤ (n : Int)
  · have d1 : decide ((1 : Int) ≤ (n : Int)) = true := by simp; omega
    have d1' : decide (1 ≤ n) = true := by simp; omega
    by_cases h2 : (n : Int) ≤ 4096
    · have d2 : decide ((n : Int) ≤ 4096) = true := by simp; omega
      have d2' : decide (n ≤ 4096) = true := by simp; omega
      by_cases h3 : 0 ≤ init ∧ init < (n : Int)
      · skip
        by_cases h4 : (k : Int) = (n : Int)
        · have d4 : ((k : Int) == (n : Int)) = true := by simp; omega
          by_cases h5 : leadR n chs
          · skip
            by_cases h6 : nms.Nodup
            · skip
              by_cases h7 : holdsR m hds
              · skip
                have H3 := Lib.hid h3
                have H5 := Lib.hid h5
                have H6 := Lib.hid h6
                have H7 := Lib.hid h7
                have HE := Lib.hid (show true = decide p.right from (decide_eq_true (HR.out.2 ⟨h1, h2, h3, h4, h5, h6, h7⟩)).symm)
                clear HR h1 h2 h3 h4 h5 h6 h7
                go_enter Tryd.func21, Tryd.ntmps21
                go_wp2_with fail
                refine (place_any _ _ _).mono ?_
                rintro e w1 ⟨rfl, rfl⟩
                rw [decide_eq_true H3.out]
                go_wp2_with fail
                rw [← HW0.out]
                with_reducible refine (HL.out _ HB0.out).mono ?_
                rintro e w2 ⟨rfl, hb2⟩
                have HB2 := Lib.hid (below_t HB0.out hb2)
                have HX2 := Lib.hid (HX0.out.below hb2)
                obtain ⟨-, -, x2, y2⟩ := HX2.out.cells4
                clear hb2
                rw [decide_eq_true H5.out]
                go_wp2_with fail
                with_reducible refine (HD.out _ HB2.out).mono ?_
                rintro e w3 ⟨rfl, hb3⟩
                have HB3 := Lib.hid (below_t HB2.out hb3)
                have HX3 := Lib.hid (HX2.out.below hb3)
                obtain ⟨-, -, x3, y3⟩ := HX3.out.cells4
                clear hb3
                rw [decide_eq_true H6.out]
                go_wp2_with fail
                with_reducible refine (HO.out _ HB3.out).mono ?_
                rintro e w4 ⟨rfl, hb4⟩
                have HB4 := Lib.hid (below_t HB3.out hb4)
                have HX4 := Lib.hid (HX3.out.below hb4)
                obtain ⟨-, -, x4, y4⟩ := HX4.out.cells4
                clear hb4
                rw [decide_eq_true H7.out]
                go_wp2
                go_ret
                exact ⟨ret_bool HE.out, HB4.out⟩
              · skip
                have H3 := Lib.hid h3
                have H5 := Lib.hid h5
                have H6 := Lib.hid h6
                have H7 := Lib.hid h7
                have HE := Lib.hid (show false = decide p.right from (decide_eq_false fun h => h7 (HR.out.1 h).2.2.2.2.2.2).symm)
                clear HR h1 h2 h3 h4 h5 h6 h7
                go_enter Tryd.func21, Tryd.ntmps21
                go_wp2_with fail
                refine (place_any _ _ _).mono ?_
                rintro e w1 ⟨rfl, rfl⟩
                rw [decide_eq_true H3.out]
                go_wp2_with fail
                rw [← HW0.out]
                with_reducible refine (HL.out _ HB0.out).mono ?_
                rintro e w2 ⟨rfl, hb2⟩
                have HB2 := Lib.hid (below_t HB0.out hb2)
                have HX2 := Lib.hid (HX0.out.below hb2)
                obtain ⟨-, -, x2, y2⟩ := HX2.out.cells4
                clear hb2
                rw [decide_eq_true H5.out]
                go_wp2_with fail
                with_reducible refine (HD.out _ HB2.out).mono ?_
                rintro e w3 ⟨rfl, hb3⟩
                have HB3 := Lib.hid (below_t HB2.out hb3)
                have HX3 := Lib.hid (HX2.out.below hb3)
                obtain ⟨-, -, x3, y3⟩ := HX3.out.cells4
                clear hb3
                rw [decide_eq_true H6.out]
                go_wp2_with fail
                with_reducible refine (HO.out _ HB3.out).mono ?_
                rintro e w4 ⟨rfl, hb4⟩
                have HB4 := Lib.hid (below_t HB3.out hb4)
                have HX4 := Lib.hid (HX3.out.below hb4)
                obtain ⟨-, -, x4, y4⟩ := HX4.out.cells4
                clear hb4
                rw [decide_eq_false H7.out]
                go_wp2
                go_ret
                exact ⟨ret_bool HE.out, HB4.out⟩
            · skip
              have H3 := Lib.hid h3
              have H5 := Lib.hid h5
              have H6 := Lib.hid h6
              have HE := Lib.hid (show false = decide p.right from (decide_eq_false fun h => h6 (HR.out.1 h).2.2.2.2.2.1).symm)
              clear HR h1 h2 h3 h4 h5 h6
              go_enter Tryd.func21, Tryd.ntmps21
              go_wp2_with fail
              refine (place_any _ _ _).mono ?_
              rintro e w1 ⟨rfl, rfl⟩
              rw [decide_eq_true H3.out]
              go_wp2_with fail
              rw [← HW0.out]
              with_reducible refine (HL.out _ HB0.out).mono ?_
              rintro e w2 ⟨rfl, hb2⟩
              have HB2 := Lib.hid (below_t HB0.out hb2)
              have HX2 := Lib.hid (HX0.out.below hb2)
              obtain ⟨-, -, x2, y2⟩ := HX2.out.cells4
              clear hb2
              rw [decide_eq_true H5.out]
              go_wp2_with fail
              with_reducible refine (HD.out _ HB2.out).mono ?_
              rintro e w3 ⟨rfl, hb3⟩
              have HB3 := Lib.hid (below_t HB2.out hb3)
              have HX3 := Lib.hid (HX2.out.below hb3)
              obtain ⟨-, -, x3, y3⟩ := HX3.out.cells4
              clear hb3
              rw [decide_eq_false H6.out]
              go_wp2
              go_ret
              exact ⟨ret_bool HE.out, HB3.out⟩
          · skip
            have H3 := Lib.hid h3
            have H5 := Lib.hid h5
            have HE := Lib.hid (show false = decide p.right from (decide_eq_false fun h => h5 (HR.out.1 h).2.2.2.2.1).symm)
            clear HR h1 h2 h3 h4 h5
            go_enter Tryd.func21, Tryd.ntmps21
            go_wp2_with fail
            refine (place_any _ _ _).mono ?_
            rintro e w1 ⟨rfl, rfl⟩
            rw [decide_eq_true H3.out]
            go_wp2_with fail
            rw [← HW0.out]
            with_reducible refine (HL.out _ HB0.out).mono ?_
            rintro e w2 ⟨rfl, hb2⟩
            have HB2 := Lib.hid (below_t HB0.out hb2)
            have HX2 := Lib.hid (HX0.out.below hb2)
            obtain ⟨-, -, x2, y2⟩ := HX2.out.cells4
            clear hb2
            rw [decide_eq_false H5.out]
            go_wp2
            go_ret
            exact ⟨ret_bool HE.out, HB2.out⟩
        · have d4 : ((k : Int) == (n : Int)) = false := by simp; omega
          have H3 := Lib.hid h3
          have HE := Lib.hid (show false = decide p.right from (decide_eq_false fun h => h4 (HR.out.1 h).2.2.2.1).symm)
          clear HR h1 h2 h3 h4
          go_enter Tryd.func21, Tryd.ntmps21
          go_wp2_with fail
          refine (place_any _ _ _).mono ?_
          rintro e w1 ⟨rfl, rfl⟩
          rw [decide_eq_true H3.out]
          go_wp2_with fail
          go_wp2
          go_ret
          exact ⟨ret_bool HE.out, by rw [← HW0.out]; exact HB0.out⟩
      · skip
        have H3 := Lib.hid h3
        have HE := Lib.hid (show false = decide p.right from (decide_eq_false fun h => h3 (HR.out.1 h).2.2.1).symm)
        clear HR h1 h2 h3
        go_enter Tryd.func21, Tryd.ntmps21
        go_wp2_with fail
        refine (place_any _ _ _).mono ?_
        rintro e w1 ⟨rfl, rfl⟩
        rw [decide_eq_false H3.out]
        go_wp2
        go_ret
        exact ⟨ret_bool HE.out, by rw [← HW0.out]; exact HB0.out⟩
    · have d2 : decide ((n : Int) ≤ 4096) = false := by simp; omega
      have d2' : decide (n ≤ 4096) = false := by simp; omega
      have HE := Lib.hid (show false = decide p.right from (decide_eq_false fun h => h2 (HR.out.1 h).2.1).symm)
      clear HR h1 h2
      go_enter Tryd.func21, Tryd.ntmps21
      go_wp2_with fail
      go_wp2
      go_ret
      exact ⟨ret_bool HE.out, by rw [← HW0.out]; exact HB0.out⟩
  · have d1 : decide ((1 : Int) ≤ (n : Int)) = false := by simp; omega
    have d1' : decide (1 ≤ n) = false := by simp; omega
    have HE := Lib.hid (show false = decide p.right from (decide_eq_false fun h => h1 (HR.out.1 h).1).symm)
    clear HR h1
    go_enter Tryd.func21, Tryd.ntmps21
    go_wp2_with fail
    go_wp2
    go_ret
    exact ⟨ret_bool HE.out, by rw [← HW0.out]; exact HB0.out⟩
/-- What Check tells. -/
def ErrP (n : Int) (w : World) (e : Ending) (w' : World) : Prop := e = .returned (if n = 0 then .nilIface else .iface 67 (.int .i64 n)) ∧ Below w.heap.size w w'
set_option maxHeartbeats 2000000 in
theorem check_any {p : PrO} {v : PV} (w : World) (hp : PrM w v p) (hs : Sml p) : Calls Tryd.prog 9 #[.agg (v.l p).toArray] w (ErrP (if p.right then 0 else 1) w) := by
  have HP := Lib.hid (fun (W : World) (hb : Below w.heap.size w W) => right_any W (hp.below hb) hs)
  change Hid (∀ (W : World) (hb : Below w.heap.size w W), Calls Tryd.prog 21 #[.agg #[.int .i64 p.init, .slice v.A p.chs.length v.a, .slice v.B p.nms.length v.b, .slice v.C p.hds.length v.c]] W (BoolP (decide p.right) W)) at HP
  show Calls Tryd.prog 9 #[.agg #[.int .i64 p.init, .slice v.A p.chs.length v.a, .slice v.B p.nms.length v.b, .slice v.C p.hds.length v.c]] w _
  clear hp hs
  generalize p.chs.length = n at *
  generalize p.nms.length = m at *
  generalize p.hds.length = k at *
  by_cases hr : p.right
  · rw [if_pos hr]
    have HR := Lib.hid (decide_eq_true hr)
    clear hr
    go_enter Tryd.func9, Tryd.ntmps9
    go_wp2_with fail
    with_reducible refine (HP.out _ (below_alloc _ _)).mono ?_
    rintro e w1 ⟨rfl, hb⟩
    have HB := Lib.hid (below_t (below_alloc _ _) hb)
    clear hb
    rw [HR.out]
    go_wp2
    go_ret
    exact ⟨rfl, HB.out⟩
  · rw [if_neg hr]
    have HR := Lib.hid (decide_eq_false hr)
    clear hr
    go_enter Tryd.func9, Tryd.ntmps9
    go_wp2_with fail
    with_reducible refine (HP.out _ (below_alloc _ _)).mono ?_
    rintro e w1 ⟨rfl, hb⟩
    have HB := Lib.hid (below_t (below_alloc _ _) hb)
    clear hb
    rw [HR.out]
    go_wp2
    go_ret
    exact ⟨rfl, HB.out⟩
end Go.Proofs.YtkgjpimapfmeoaaDoor
