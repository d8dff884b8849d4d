/-
  The chapter's example, walked.
-/
import Derived.Test.YtddeplbgihcdkaaGreatDoorWF
import Derived.Test.YtddeplbgihcdkaaGreatDoorXC
import Derived.Test.YtddeplbgihcdkaaGreatDoorQQ
namespace Go.Proofs.YtddeplbgihcdkaaGreatDoor
open Go.RowKit Go.Sort

/-- What every law's call finds in memory. -/
structure GlobT (w : World) : Prop where
  s : GlobS w
  t : Tabs w
theorem GlobT.below {w w' : World} (h : GlobT w) (hb : Below w.heap.size w w') : GlobT w' := ⟨h.s.below hb, tabs_on h.t hb⟩
def exE : Ex := .bin [38] (.un [33] (.bin [61] (.leaf opName [120] 0 1) (.leaf opNum [] 1 5) 1) 0)
      (.bin [60] (.bin [42] (.un opNeg (.bin [43] (.leaf opName [121] 0 11) (.leaf opNum [] 2 15) 10) 9) (.leaf opNum [] 3 20) 9) (.leaf opName [122] 0 24) 9) 0
def exT : List UInt8 := [33, 120, 32, 61, 32, 49, 32, 38, 32, 45, 40, 121, 32, 43, 32, 50, 41, 32, 42, 32, 51, 32, 60, 32, 122]
theorem exE_ok : Ok exE := (parse_good (by decide) ex_one).1
theorem exE_show : shw exE = exT := ex_show
theorem bytes_of (l : List UInt8) : (⟨l.toArray⟩ : ByteArray).toList = l := by rw [ByteArray.toList_eq]
set_option maxHeartbeats 4000000 in
set_option maxRecDepth 100000 in
theorem alive_yes (w : World) (hG : GlobT w) : Calls Tryz.prog 32 #[] w (LawF w) := by
  have H1 := Lib.hid (fun (W : World) (hW : GlobT W) => (parse_any (s := ⟨#[33, 120, 32, 61, 32, 49, 32, 38, 32, 45, 40, 121, 32, 43, 32, 50, 41, 32, 42, 32, 51, 32, 60, 32, 122]⟩) (D := 9) W hW.s (by decide) (by decide) (by decide)))
  have H2 := Lib.hid (fun (W : World) (hW : GlobT W) => (parse_any (s := ⟨#[49, 32, 43]⟩) (D := 9) W hW.s (by decide) (by decide) (by decide)))
  have e1 : parseX 9 (⟨#[33, 120, 32, 61, 32, 49, 32, 38, 32, 45, 40, 121, 32, 43, 32, 50, 41, 32, 42, 32, 51, 32, 60, 32, 122]⟩ : ByteArray).data.toList = .ok exE [⟨0, [], 25⟩] := ex_one
  have e2 : parseX 9 (⟨#[49, 32, 43]⟩ : ByteArray).data.toList = .er 20 3 := ex_two
  rw [e1] at H1
  rw [e2] at H2
  have HG := Lib.hid hG
  clear hG e1 e2
  go_enter Tryz.func32, Tryz.ntmps32
  go_wp2_with fail
  refine (H1.out w HG.out).mono ?_
  rintro e w1 ⟨o, nm, n, A, ll, cap, p, rfl, hC, hb1⟩
  have HG1 := Lib.hid (HG.out.below hb1)
  have HB1 := Lib.hid hb1
  have HC1 := Lib.hid hC
  clear hC hb1
  go_wp2_with fail
  refine calls_gen (P := fun W => Box W w1.heap.size (.string o) (.string nm) (.int .i64 n) (.slice A ll cap) (.int .i64 p) ∧ HC W 62 w.heap.size w1.heap.size exE (exC o nm n A ll cap p) ∧ GlobT W ∧ Below w.heap.size w W) ⟨Box.new _ _ _ _ _ _, HC1.out.alloc _, HG1.out.below ((Below.refl _ _).alloc (Nat.le_refl _) _), HB1.out.alloc HB1.out.size _⟩ ?_
  rintro W ⟨hBx, hC, hG, hB⟩
  refine (H2.out W hG).mono ?_
  rintro e w2 ⟨b, rfl, hbb, hA, hb2⟩
  have hBx2 := hBx.below hb2
  have hC2 := hC.below hb2
  obtain ⟨A', cap', hv, hk⟩ := hC2.view
  simp only [exC, List.cons.injEq, Value.string.injEq, Value.int.injEq, Value.slice.injEq] at hv
  obtain ⟨ho, -, -, ⟨hA', hll, -⟩, -⟩ := hv
  obtain ⟨g, o0, nm0, n0, B0, l0, c0, p0, hA0, hg, hH0, a0, a1, a2, a3, a4⟩ := hk 0 (by decide)
  obtain ⟨g1, o1, nm1, n1, B1, l1, c1, p1, hA1, hg1, hH1, d0, d1, d2, d3, d4⟩ := hk 1 (by decide)
  have hgg : g1 = g := by
    rw [hA0] at hA1
    simpa using hA1.symm
  subst hgg
  rw [hA0] at hA'
  subst hA'
  have hll2 : ll = 2 := hll
  subst hll2
  have q1 : (o.toList == [38]) = true := by rw [ho, bytes_of]; rfl
  have q2 : (o0.toList == [33]) = true := by rw [hH0.opn, bytes_of]; rfl
  have q3 : (o1.toList == [60]) = true := by rw [hH1.opn, bytes_of]; rfl
  have HG2 := Lib.hid (hG.below hb2)
  have HB2 := Lib.hid (hB.trans (hb2.mono hB.size))
  have HA2 := Lib.hid hA
  have HC2 := Lib.hid hC2
  have HBx2 := Lib.hid hBx2
  obtain ⟨b0, b1, b2, b3, b4⟩ := hBx2.cells
  have hbl := hBx2.lt
  clear a1 a2 a3 a4 d1 d2 d3 d4 hk hH0 hH1 hC hC2 hBx hBx2 hG hB hA hb2 ho hA0 hA1 hll hbb
  go_wp2_with fail
  refine calls_gen (P := fun W3 => Box W3 w1.heap.size (.string o) (.string nm) (.int .i64 n) (.slice (some ⟨g1, 0, none⟩) 2 cap) (.int .i64 p) ∧ HC W3 62 w.heap.size w1.heap.size exE (exC o nm n (some ⟨g1, 0, none⟩) 2 cap p) ∧ GlobT W3 ∧ AtE W3 b 3 20 ∧ Below w.heap.size w W3) ⟨HBx2.out.alloc _, HC2.out.alloc _, HG2.out.below ((Below.refl _ _).alloc (Nat.le_refl _) _), HA2.out.alloc _, HB2.out.alloc HB2.out.size _⟩ ?_
  rintro W3 ⟨hBx, hC, hG, hA, hB⟩
  refine (num_at b 3 20 W3 hG.s.glob hA).mono ?_
  rintro e w4 ⟨rfl, hb4⟩
  have HBx4 := Lib.hid (hBx.below hb4)
  have HC4 := Lib.hid (hC.below hb4)
  have HG4 := Lib.hid (hG.below hb4)
  have HA4 := Lib.hid (hA.below hb4)
  have HB4 := Lib.hid (hB.trans (hb4.mono hB.size))
  clear hBx hC hG hA hB hb4 b0 b1 b2 b3 b4 a0 d0
  go_wp2_with fail
  refine (pos_at b 3 20 w4 HG4.out.s.glob HA4.out).mono ?_
  rintro e w5 ⟨rfl, hb5⟩
  have hBx5 := HBx4.out.below hb5
  have HC5 := Lib.hid (HC4.out.below hb5)
  have HG5 := Lib.hid (HG4.out.below hb5)
  have HB5 := Lib.hid (HB4.out.trans (hb5.mono HB4.out.size))
  obtain ⟨b0, b1, b2, b3, b4⟩ := hBx5.cells
  have hbl5 := hBx5.lt
  clear hBx5 hb5
  go_wp2_with fail
  refine (print_any exE_ok w5 HC5.out HG5.out.t (by rw [exE_show]; decide)).mono ?_
  rintro e w6 ⟨rfl, hb6⟩
  rw [exE_show]
  have HB6 := Lib.hid (HB5.out.trans (hb6.mono HB5.out.size))
  clear hb6
  have q9 : ((⟨exT.toArray⟩ : ByteArray).toList == [33, 120, 32, 61, 32, 49, 32, 38, 32, 45, 40, 121, 32, 43, 32, 50, 41, 32, 42, 32, 51, 32, 60, 32, 122]) = true := by rw [bytes_of]; rfl
  generalize (⟨exT.toArray⟩ : ByteArray) = tx at *
  go_wp2
  go_ret
  exact ⟨rfl, HB6.out⟩
end Go.Proofs.YtddeplbgihcdkaaGreatDoor
