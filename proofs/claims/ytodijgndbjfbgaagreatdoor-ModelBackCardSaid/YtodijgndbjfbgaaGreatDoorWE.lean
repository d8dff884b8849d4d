/-
  Products, sums, conjunctions, disjunctions; comparisons and implications: walked. Choices, all levels, Read and Parse: walked.
-/
import Derived.Test.YtodijgndbjfbgaaGreatDoorWD
namespace Go.Proofs.YtodijgndbjfbgaaGreatDoor
section
open Go.RowKit

set_option maxHeartbeats 1000000 in
theorem product_rc {d : Dp} {lv : Nat} (hR : RC 183 (minusX d) lv) (hS : Shr (minusX d)) : RC 182 (prodX d) lv := by
  intro xb rb w us h
  have hx := h.ltx
  have hr := h.ltr
  have HR := Lib.hid hR
  have HSH := Lib.hid hS
  have HX := Lib.hid h
  clear h hR hS
  go_enter Tryz.func182, Tryz.ntmps182
  go_wp2_with fail
  refine calls_gen (P := fun W => XR W xb rb us lv ∧ Box W w.heap.size (.string ⟨#[]⟩) (.string ⟨#[]⟩) (.int .i64 0) (.slice none 0 0) (.int .i64 0) ∧ Fr w.heap.size rb w W) ⟨HX.out.alloc _, Box.new _ _ _ _ _ _, (Fr.refl _ _ _).alloc (Nat.le_refl _) _⟩ ?_
  rintro W ⟨hX, hB, hF⟩
  refine (chain_minus (k := 7) HR.out HSH.out (by decide) W hX).mono ?_
  intro e w1 hp
  clear hX
  have hRR : prodX d us = chainX 7 (minusX d) us := rfl
  have hs := hB.lt
  have HRR := Lib.hid hRR
  clear hRR
  cases hres : chainX 7 (minusX d) us with
  | er c q =>
    rw [hres] at hp
    obtain ⟨b, rfl, hbb, hA, hF1⟩ := hp
    have hB1 := hB.fr hF1 (by omega)
    obtain ⟨b0, b1, b2, b3, b4⟩ := hB1.cells
    obtain ⟨z0, z1, z2, z3, z4⟩ := hB1.frozen
    have hs1 := hB1.lt
    have HB1 := Lib.hid hB1
    have HA := Lib.hid hA
    have HF1 := Lib.hid (hF.on hF.size hF1)
    have HR := Lib.hid (HRR.out.trans hres)
    clear hB1 hA hF hF1 hB hres
    go_wp2
    obtain ⟨d0, d1, d2, d3, d4⟩ := (HB1.out.set5 (.string ⟨#[]⟩) (.string ⟨#[]⟩) (.int .i64 0) (.slice none 0 0) (.int .i64 0)).cells
    rw [HR.out]
    refine bodyPost_ret (v := .tuple #[.agg #[.string ⟨#[]⟩, .string ⟨#[]⟩, .int .i64 0, .slice none 0 0, .int .i64 0], .iface 101 (.pointer (some ⟨b, 0, none⟩))]) (by simp [results, Tryz.results182, go_sem, d0, d1, d2, d3, d4]) rfl ⟨b, rfl, by omega, ?_, ?_⟩
    · exact HA.out.far5 (by omega) _ _ _ _ _
    · exact HF1.out.set5 (Nat.le_refl _) _ _ _ _ _
  | ok x r =>
    rw [hres] at hp
    obtain ⟨o, nm, n, A, ll, cap, p, rfl, hC, hX1, hF1⟩ := hp
    have hB1 := hB.fr hF1 (by omega)
    obtain ⟨b0, b1, b2, b3, b4⟩ := hB1.cells
    obtain ⟨z0, z1, z2, z3, z4⟩ := hB1.frozen
    have hs1 := hB1.lt
    have HB1 := Lib.hid hB1
    have HC1 := Lib.hid hC
    have HX1 := Lib.hid hX1
    have HF1 := Lib.hid (hF.on hF.size hF1)
    have HR := Lib.hid (HRR.out.trans hres)
    clear hB1 hC hX1 hF hF1 hB hres
    go_wp2
    obtain ⟨d0, d1, d2, d3, d4⟩ := (HB1.out.set5 (.string o) (.string nm) (.int .i64 n) (.slice A ll cap) (.int .i64 p)).cells
    rw [HR.out]
    refine bodyPost_ret (v := .tuple #[.agg #[.string o, .string nm, .int .i64 n, .slice A ll cap, .int .i64 p], .nilIface]) (by simp [results, Tryz.results182, go_sem, d0, d1, d2, d3, d4]) rfl ⟨o, nm, n, A, ll, cap, p, rfl, ?_, ?_, ?_⟩
    · exact (HC1.out.far5 (.inl (by omega)) _ _ _ _ _).mono (by omega) (by simp)
    · exact HX1.out.set5 HB1.out (by omega) _ _ _ _ _
    · exact HF1.out.set5 (Nat.le_refl _) _ _ _ _ _
set_option maxHeartbeats 1000000 in
theorem sum_rc {d : Dp} {lv : Nat} (hR : RC 182 (prodX d) lv) (hS : Shr (prodX d)) : RC 181 (sumX d) lv := by
  intro xb rb w us h
  have hx := h.ltx
  have hr := h.ltr
  have HR := Lib.hid hR
  have HSH := Lib.hid hS
  have HX := Lib.hid h
  clear h hR hS
  go_enter Tryz.func181, Tryz.ntmps181
  go_wp2_with fail
  refine calls_gen (P := fun W => XR W xb rb us lv ∧ Box W w.heap.size (.string ⟨#[]⟩) (.string ⟨#[]⟩) (.int .i64 0) (.slice none 0 0) (.int .i64 0) ∧ Fr w.heap.size rb w W) ⟨HX.out.alloc _, Box.new _ _ _ _ _ _, (Fr.refl _ _ _).alloc (Nat.le_refl _) _⟩ ?_
  rintro W ⟨hX, hB, hF⟩
  refine (chain_product (k := 6) HR.out HSH.out (by decide) W hX).mono ?_
  intro e w1 hp
  clear hX
  have hRR : sumX d us = chainX 6 (prodX d) us := rfl
  have hs := hB.lt
  have HRR := Lib.hid hRR
  clear hRR
  cases hres : chainX 6 (prodX d) us with
  | er c q =>
    rw [hres] at hp
    obtain ⟨b, rfl, hbb, hA, hF1⟩ := hp
    have hB1 := hB.fr hF1 (by omega)
    obtain ⟨b0, b1, b2, b3, b4⟩ := hB1.cells
    obtain ⟨z0, z1, z2, z3, z4⟩ := hB1.frozen
    have hs1 := hB1.lt
    have HB1 := Lib.hid hB1
    have HA := Lib.hid hA
    have HF1 := Lib.hid (hF.on hF.size hF1)
    have HR := Lib.hid (HRR.out.trans hres)
    clear hB1 hA hF hF1 hB hres
    go_wp2
    obtain ⟨d0, d1, d2, d3, d4⟩ := (HB1.out.set5 (.string ⟨#[]⟩) (.string ⟨#[]⟩) (.int .i64 0) (.slice none 0 0) (.int .i64 0)).cells
    rw [HR.out]
    refine bodyPost_ret (v := .tuple #[.agg #[.string ⟨#[]⟩, .string ⟨#[]⟩, .int .i64 0, .slice none 0 0, .int .i64 0], .iface 101 (.pointer (some ⟨b, 0, none⟩))]) (by simp [results, Tryz.results181, go_sem, d0, d1, d2, d3, d4]) rfl ⟨b, rfl, by omega, ?_, ?_⟩
    · exact HA.out.far5 (by omega) _ _ _ _ _
    · exact HF1.out.set5 (Nat.le_refl _) _ _ _ _ _
  | ok x r =>
    rw [hres] at hp
    obtain ⟨o, nm, n, A, ll, cap, p, rfl, hC, hX1, hF1⟩ := hp
    have hB1 := hB.fr hF1 (by omega)
    obtain ⟨b0, b1, b2, b3, b4⟩ := hB1.cells
    obtain ⟨z0, z1, z2, z3, z4⟩ := hB1.frozen
    have hs1 := hB1.lt
    have HB1 := Lib.hid hB1
    have HC1 := Lib.hid hC
    have HX1 := Lib.hid hX1
    have HF1 := Lib.hid (hF.on hF.size hF1)
    have HR := Lib.hid (HRR.out.trans hres)
    clear hB1 hC hX1 hF hF1 hB hres
    go_wp2
    obtain ⟨d0, d1, d2, d3, d4⟩ := (HB1.out.set5 (.string o) (.string nm) (.int .i64 n) (.slice A ll cap) (.int .i64 p)).cells
    rw [HR.out]
    refine bodyPost_ret (v := .tuple #[.agg #[.string o, .string nm, .int .i64 n, .slice A ll cap, .int .i64 p], .nilIface]) (by simp [results, Tryz.results181, go_sem, d0, d1, d2, d3, d4]) rfl ⟨o, nm, n, A, ll, cap, p, rfl, ?_, ?_, ?_⟩
    · exact (HC1.out.far5 (.inl (by omega)) _ _ _ _ _).mono (by omega) (by simp)
    · exact HX1.out.set5 HB1.out (by omega) _ _ _ _ _
    · exact HF1.out.set5 (Nat.le_refl _) _ _ _ _ _
set_option maxHeartbeats 1000000 in
theorem conj_rc {d : Dp} {lv : Nat} (hR : RC 178 (negX d) lv) (hS : Shr (negX d)) : RC 176 (conjX d) lv := by
  intro xb rb w us h
  have hx := h.ltx
  have hr := h.ltr
  have HR := Lib.hid hR
  have HSH := Lib.hid hS
  have HX := Lib.hid h
  clear h hR hS
  go_enter Tryz.func176, Tryz.ntmps176
  go_wp2_with fail
  refine calls_gen (P := fun W => XR W xb rb us lv ∧ Box W w.heap.size (.string ⟨#[]⟩) (.string ⟨#[]⟩) (.int .i64 0) (.slice none 0 0) (.int .i64 0) ∧ Fr w.heap.size rb w W) ⟨HX.out.alloc _, Box.new _ _ _ _ _ _, (Fr.refl _ _ _).alloc (Nat.le_refl _) _⟩ ?_
  rintro W ⟨hX, hB, hF⟩
  refine (chain_neg (k := 3) HR.out HSH.out (by decide) W hX).mono ?_
  intro e w1 hp
  clear hX
  have hRR : conjX d us = chainX 3 (negX d) us := rfl
  have hs := hB.lt
  have HRR := Lib.hid hRR
  clear hRR
  cases hres : chainX 3 (negX d) us with
  | er c q =>
    rw [hres] at hp
    obtain ⟨b, rfl, hbb, hA, hF1⟩ := hp
    have hB1 := hB.fr hF1 (by omega)
    obtain ⟨b0, b1, b2, b3, b4⟩ := hB1.cells
    obtain ⟨z0, z1, z2, z3, z4⟩ := hB1.frozen
    have hs1 := hB1.lt
    have HB1 := Lib.hid hB1
    have HA := Lib.hid hA
    have HF1 := Lib.hid (hF.on hF.size hF1)
    have HR := Lib.hid (HRR.out.trans hres)
    clear hB1 hA hF hF1 hB hres
    go_wp2
    obtain ⟨d0, d1, d2, d3, d4⟩ := (HB1.out.set5 (.string ⟨#[]⟩) (.string ⟨#[]⟩) (.int .i64 0) (.slice none 0 0) (.int .i64 0)).cells
    rw [HR.out]
    refine bodyPost_ret (v := .tuple #[.agg #[.string ⟨#[]⟩, .string ⟨#[]⟩, .int .i64 0, .slice none 0 0, .int .i64 0], .iface 101 (.pointer (some ⟨b, 0, none⟩))]) (by simp [results, Tryz.results176, go_sem, d0, d1, d2, d3, d4]) rfl ⟨b, rfl, by omega, ?_, ?_⟩
    · exact HA.out.far5 (by omega) _ _ _ _ _
    · exact HF1.out.set5 (Nat.le_refl _) _ _ _ _ _
  | ok x r =>
    rw [hres] at hp
    obtain ⟨o, nm, n, A, ll, cap, p, rfl, hC, hX1, hF1⟩ := hp
    have hB1 := hB.fr hF1 (by omega)
    obtain ⟨b0, b1, b2, b3, b4⟩ := hB1.cells
    obtain ⟨z0, z1, z2, z3, z4⟩ := hB1.frozen
    have hs1 := hB1.lt
    have HB1 := Lib.hid hB1
    have HC1 := Lib.hid hC
    have HX1 := Lib.hid hX1
    have HF1 := Lib.hid (hF.on hF.size hF1)
    have HR := Lib.hid (HRR.out.trans hres)
    clear hB1 hC hX1 hF hF1 hB hres
    go_wp2
    obtain ⟨d0, d1, d2, d3, d4⟩ := (HB1.out.set5 (.string o) (.string nm) (.int .i64 n) (.slice A ll cap) (.int .i64 p)).cells
    rw [HR.out]
    refine bodyPost_ret (v := .tuple #[.agg #[.string o, .string nm, .int .i64 n, .slice A ll cap, .int .i64 p], .nilIface]) (by simp [results, Tryz.results176, go_sem, d0, d1, d2, d3, d4]) rfl ⟨o, nm, n, A, ll, cap, p, rfl, ?_, ?_, ?_⟩
    · exact (HC1.out.far5 (.inl (by omega)) _ _ _ _ _).mono (by omega) (by simp)
    · exact HX1.out.set5 HB1.out (by omega) _ _ _ _ _
    · exact HF1.out.set5 (Nat.le_refl _) _ _ _ _ _
set_option maxHeartbeats 1000000 in
theorem disj_rc {d : Dp} {lv : Nat} (hR : RC 176 (conjX d) lv) (hS : Shr (conjX d)) : RC 173 (disjX d) lv := by
  intro xb rb w us h
  have hx := h.ltx
  have hr := h.ltr
  have HR := Lib.hid hR
  have HSH := Lib.hid hS
  have HX := Lib.hid h
  clear h hR hS
  go_enter Tryz.func173, Tryz.ntmps173
  go_wp2_with fail
  refine calls_gen (P := fun W => XR W xb rb us lv ∧ Box W w.heap.size (.string ⟨#[]⟩) (.string ⟨#[]⟩) (.int .i64 0) (.slice none 0 0) (.int .i64 0) ∧ Fr w.heap.size rb w W) ⟨HX.out.alloc _, Box.new _ _ _ _ _ _, (Fr.refl _ _ _).alloc (Nat.le_refl _) _⟩ ?_
  rintro W ⟨hX, hB, hF⟩
  refine (chain_conj (k := 2) HR.out HSH.out (by decide) W hX).mono ?_
  intro e w1 hp
  clear hX
  have hRR : disjX d us = chainX 2 (conjX d) us := rfl
  have hs := hB.lt
  have HRR := Lib.hid hRR
  clear hRR
  cases hres : chainX 2 (conjX d) us with
  | er c q =>
    rw [hres] at hp
    obtain ⟨b, rfl, hbb, hA, hF1⟩ := hp
    have hB1 := hB.fr hF1 (by omega)
    obtain ⟨b0, b1, b2, b3, b4⟩ := hB1.cells
    obtain ⟨z0, z1, z2, z3, z4⟩ := hB1.frozen
    have hs1 := hB1.lt
    have HB1 := Lib.hid hB1
    have HA := Lib.hid hA
    have HF1 := Lib.hid (hF.on hF.size hF1)
    have HR := Lib.hid (HRR.out.trans hres)
    clear hB1 hA hF hF1 hB hres
    go_wp2
    obtain ⟨d0, d1, d2, d3, d4⟩ := (HB1.out.set5 (.string ⟨#[]⟩) (.string ⟨#[]⟩) (.int .i64 0) (.slice none 0 0) (.int .i64 0)).cells
    rw [HR.out]
    refine bodyPost_ret (v := .tuple #[.agg #[.string ⟨#[]⟩, .string ⟨#[]⟩, .int .i64 0, .slice none 0 0, .int .i64 0], .iface 101 (.pointer (some ⟨b, 0, none⟩))]) (by simp [results, Tryz.results173, go_sem, d0, d1, d2, d3, d4]) rfl ⟨b, rfl, by omega, ?_, ?_⟩
    · exact HA.out.far5 (by omega) _ _ _ _ _
    · exact HF1.out.set5 (Nat.le_refl _) _ _ _ _ _
  | ok x r =>
    rw [hres] at hp
    obtain ⟨o, nm, n, A, ll, cap, p, rfl, hC, hX1, hF1⟩ := hp
    have hB1 := hB.fr hF1 (by omega)
    obtain ⟨b0, b1, b2, b3, b4⟩ := hB1.cells
    obtain ⟨z0, z1, z2, z3, z4⟩ := hB1.frozen
    have hs1 := hB1.lt
    have HB1 := Lib.hid hB1
    have HC1 := Lib.hid hC
    have HX1 := Lib.hid hX1
    have HF1 := Lib.hid (hF.on hF.size hF1)
    have HR := Lib.hid (HRR.out.trans hres)
    clear hB1 hC hX1 hF hF1 hB hres
    go_wp2
    obtain ⟨d0, d1, d2, d3, d4⟩ := (HB1.out.set5 (.string o) (.string nm) (.int .i64 n) (.slice A ll cap) (.int .i64 p)).cells
    rw [HR.out]
    refine bodyPost_ret (v := .tuple #[.agg #[.string o, .string nm, .int .i64 n, .slice A ll cap, .int .i64 p], .nilIface]) (by simp [results, Tryz.results173, go_sem, d0, d1, d2, d3, d4]) rfl ⟨o, nm, n, A, ll, cap, p, rfl, ?_, ?_, ?_⟩
    · exact (HC1.out.far5 (.inl (by omega)) _ _ _ _ _).mono (by omega) (by simp)
    · exact HX1.out.set5 HB1.out (by omega) _ _ _ _ _
    · exact HF1.out.set5 (Nat.le_refl _) _ _ _ _ _
set_option maxHeartbeats 2000000 in
theorem comp_rc {d : Dp} {lv : Nat} (hR : RC 181 (sumX d) lv) : RC 180 (compX d) lv := by
  intro xb rb w us h
  have hx := h.ltx
  have hr := h.ltr
  have HR := Lib.hid hR
  have HD := Lib.hid hR
  have HX := Lib.hid h
  clear h hR
  go_enter Tryz.func180, Tryz.ntmps180
  go_wp2_with fail
  refine calls_gen (P := fun W => XR W xb rb us lv ∧ Box W w.heap.size (.string ⟨#[]⟩) (.string ⟨#[]⟩) (.int .i64 0) (.slice none 0 0) (.int .i64 0) ∧ Fr w.heap.size rb w W) ⟨HX.out.alloc _, Box.new _ _ _ _ _ _, (Fr.refl _ _ _).alloc (Nat.le_refl _) _⟩ ?_
  rintro W ⟨hX, hB, hF⟩
  refine (HR.out xb rb W us hX).mono ?_
  intro e w1 hp
  have hs := hB.lt
  cases hres : sumX d us with
  | er c q =>
    rw [hres] at hp
    obtain ⟨b, rfl, hbb, hA, hF1⟩ := hp
    have hB1 := hB.fr hF1 (by omega)
    obtain ⟨b0, b1, b2, b3, b4⟩ := hB1.cells
    obtain ⟨z0, z1, z2, z3, z4⟩ := hB1.frozen
    have hs1 := hB1.lt
    have HB1 := Lib.hid hB1
    have HA := Lib.hid hA
    have HF1 := Lib.hid (hF.on hF.size hF1)
    have HRE := Lib.hid (show compX d us = .er c q by rw [compX, hres]; rfl)
    clear hB1 hA hF hF1 hX hB hres
    go_wp2
    obtain ⟨d0, d1, d2, d3, d4⟩ := ((HB1.out.set5 (.string ⟨#[]⟩) (.string ⟨#[]⟩) (.int .i64 0) (.slice none 0 0) (.int .i64 0)).alloc (.cells #[.string ⟨#[]⟩, .string ⟨#[]⟩, .int .i64 0, .slice none 0 0, .int .i64 0] 57)).cells
    rw [HRE.out]
    refine bodyPost_ret (v := .tuple #[.agg #[.string ⟨#[]⟩, .string ⟨#[]⟩, .int .i64 0, .slice none 0 0, .int .i64 0], .iface 101 (.pointer (some ⟨b, 0, none⟩))]) (by simp [results, Tryz.results180, go_sem, d0, d1, d2, d3, d4]) rfl ⟨b, rfl, by omega, ?_, ?_⟩
    · exact (HA.out.far5 (by omega) _ _ _ _ _).alloc _
    · exact (HF1.out.set5 (Nat.le_refl _) _ _ _ _ _).alloc (by simp; omega) _
  | ok x r =>
    rw [hres] at hp
    obtain ⟨o, nm, n, A, ll, cap, p, rfl, hC, hX1, hF1⟩ := hp
    have hB1 := hB.fr hF1 (by omega)
    have hs1 := hB1.lt
    obtain ⟨c0, _, _⟩ := hX1.cells
    have hx1 := hX1.ltx
    have HB1 := Lib.hid hB1
    have HX1 := Lib.hid hX1
    have HC1 := Lib.hid hC
    have HF1 := Lib.hid (hF.on hF.size hF1)
    have HR0 := Lib.hid hres
    clear hB1 hX1 hC hF hF1 hX hB hres
    go_wp2_with fail
    refine calls_gen (P := fun W2 => XR W2 xb rb r lv ∧ Box W2 w.heap.size (.string ⟨#[]⟩) (.string ⟨#[]⟩) (.int .i64 0) (.slice none 0 0) (.int .i64 0) ∧ Box W2 w1.heap.size (.string o) (.string nm) (.int .i64 n) (.slice A ll cap) (.int .i64 p) ∧ HC W2 57 W.heap.size w1.heap.size x (exC o nm n A ll cap p) ∧ Fr w.heap.size rb w W2) ⟨HX1.out.alloc _, HB1.out.alloc _, Box.new _ _ _ _ _ _, HC1.out.alloc _, HF1.out.alloc HF1.out.size _⟩ ?_
    rintro W2 ⟨hX2, hB2, hE2, hC2, hF2⟩
    have hs2 := hE2.lt
    clear c0 hx1
    by_cases hi : sg 5 (hd r) = true
    rotate_left
    · have hi' : sg 5 (hd r) = false := by simpa using hi
      refine (sign_no W2 hX2 5 (by decide) hi').mono ?_
      rintro e w3 ⟨rfl, hb3⟩
      have hB3 := hB2.below hb3
      have hE3 := hE2.below hb3
      have hC3 := hC2.below hb3
      have hs3 := hE3.lt
      obtain ⟨b0, b1, b2, b3, b4⟩ := hB3.cells
      obtain ⟨z0, z1, z2, z3, z4⟩ := hB3.frozen
      obtain ⟨e0, e1, e2, e3, e4⟩ := hE3.cells
      have HB3 := Lib.hid hB3
      have HC3 := Lib.hid hC3
      have HX3 := Lib.hid (hX2.below hb3)
      have HF3 := Lib.hid (hF2.onB hF2.size hb3)
      have HRE := Lib.hid (show compX d us = .ok x r by rw [compX, HR0.out]; simp [compG, hi'])
      clear hB2 hE2 hC2 hX2 hF2 hB3 hE3 hC3 hb3 hi hi'
      go_wp2
      obtain ⟨d0, d1, d2, d3, d4⟩ := (HB3.out.set5 (.string o) (.string nm) (.int .i64 n) (.slice A ll cap) (.int .i64 p)).cells
      rw [HRE.out]
      refine bodyPost_ret (v := .tuple #[.agg #[.string o, .string nm, .int .i64 n, .slice A ll cap, .int .i64 p], .nilIface]) (by simp [results, Tryz.results180, go_sem, d0, d1, d2, d3, d4]) rfl ⟨o, nm, n, A, ll, cap, p, rfl, ?_, ?_, ?_⟩
      · exact (HC3.out.far5 (.inl (by omega)) _ _ _ _ _).mono (by omega) (by simp; omega)
      · exact HX3.out.set5 HB3.out (by omega) _ _ _ _ _
      · exact HF3.out.set5 (Nat.le_refl _) _ _ _ _ _
    refine (sign_yes W2 hX2 5 hi).mono ?_
    rintro e w3 ⟨rfl, hX3, hF3⟩
    have HB3 := Lib.hid (hB2.fr hF3 (by omega))
    have HE3 := Lib.hid (hE2.fr hF3 (by omega))
    have HC3 := Lib.hid (hC2.fr hF3 (by omega))
    have HX3 := Lib.hid hX3
    have HF3 := Lib.hid (hF2.on hF2.size hF3)
    have HI := Lib.hid hi
    clear hB2 hE2 hC2 hX2 hF2 hX3 hF3 hi
    go_wp2_with fail
    have hs3 := HE3.out.lt
    have hs3' := HB3.out.lt
    refine (HD.out xb rb w3 r.tail HX3.out).mono ?_
    intro e w4 hp
    cases hft : sumX d r.tail with
    | er c q =>
      rw [hft] at hp
      obtain ⟨b, rfl, hbb, hA, hF5⟩ := hp
      have hE5 := HE3.out.fr hF5 (by omega)
      have hB5 := HB3.out.fr hF5 (by omega)
      obtain ⟨e0, e1, e2, e3, e4⟩ := hE5.cells
      have hs5 := hE5.lt
      have HA5 := Lib.hid hA
      have HB5 := Lib.hid hB5
      have HF5 := Lib.hid (HF3.out.on HF3.out.size hF5)
      have HRE := Lib.hid (show compX d us = .er c q by rw [compX, HR0.out]; simp [compG, HI.out, hft, joinX])
      clear hE5 hB5 hA hF5 hft
      go_wp2_with fail
      refine calls_gen (P := fun W3 => AtE W3 b q c ∧ Box W3 w.heap.size (.string ⟨#[]⟩) (.string ⟨#[]⟩) (.int .i64 0) (.slice none 0 0) (.int .i64 0) ∧ Fr w.heap.size rb w W3) ⟨HA5.out.alloc _, HB5.out.alloc _, HF5.out.alloc HF5.out.size _⟩ ?_
      rintro W3 ⟨hA6, hB6, hF6⟩
      refine (joined_er _ _ _ _ _ _ _ _ _ _ _ _ _ _ _ _ _ W3).mono ?_
      rintro e'' w5 ⟨rfl, hb6⟩
      have hB7 := hB6.below hb6
      obtain ⟨b0, b1, b2, b3, b4⟩ := hB7.cells
      obtain ⟨z0, z1, z2, z3, z4⟩ := hB7.frozen
      have hs7 := hB7.lt
      have HB7 := Lib.hid hB7
      have HA7 := Lib.hid (hA6.below hb6)
      have HF7 := Lib.hid (hF6.onB hF6.size hb6)
      clear hB7 hA6 hB6 hF6 hb6
      go_wp2
      obtain ⟨d0, d1, d2, d3, d4⟩ := (HB7.out.set5 (.string ⟨#[]⟩) (.string ⟨#[]⟩) (.int .i64 0) (.slice none 0 0) (.int .i64 0)).cells
      rw [HRE.out]
      refine bodyPost_ret (v := .tuple #[.agg #[.string ⟨#[]⟩, .string ⟨#[]⟩, .int .i64 0, .slice none 0 0, .int .i64 0], .iface 101 (.pointer (some ⟨b, 0, none⟩))]) (by simp [results, Tryz.results180, go_sem, d0, d1, d2, d3, d4]) rfl ⟨b, rfl, by omega, ?_, ?_⟩
      · exact HA7.out.far5 (by omega) _ _ _ _ _
      · exact HF7.out.set5 (Nat.le_refl _) _ _ _ _ _
    | ok y r2 =>
      rw [hft] at hp
      obtain ⟨o2, nm2, n2, A2, ll2, cap2, p2, rfl, hC5, hX5, hF5⟩ := hp
      have hE5 := HE3.out.fr hF5 (by omega)
      have hB5 := HB3.out.fr hF5 (by omega)
      obtain ⟨e0, e1, e2, e3, e4⟩ := hE5.cells
      have hs5 := hE5.lt
      have HX5 := Lib.hid hX5
      have HB5 := Lib.hid hB5
      have HH5 := Lib.hid (show HS w4 57 (fun j => w.heap.size < j) x (exC o nm n A ll cap p) from (HC3.out.fr hF5 (by omega)).wide (fun j _ hj => by unfold Rg at hj; omega))
      have HC5 := Lib.hid (show HS w4 57 (fun j => w.heap.size < j) y (exC o2 nm2 n2 A2 ll2 cap2 p2) from hC5.wide (fun j _ hj => by unfold Rg at hj; omega))
      have HF5 := Lib.hid (HF3.out.on HF3.out.size hF5)
      have HRE := Lib.hid (show compX d us = .ok (.bin (hd r).text x y x.pos) r2 by rw [compX, HR0.out]; simp [compG, HI.out, hft, joinX])
      clear hE5 hB5 hX5 hC5 hF5 hft
      go_wp2_with fail
      refine calls_gen (P := fun W3 => XR W3 xb rb r2 lv ∧ Box W3 w.heap.size (.string ⟨#[]⟩) (.string ⟨#[]⟩) (.int .i64 0) (.slice none 0 0) (.int .i64 0) ∧ HS W3 57 (fun j => w.heap.size < j) x (exC o nm n A ll cap p) ∧ HS W3 57 (fun j => w.heap.size < j) y (exC o2 nm2 n2 A2 ll2 cap2 p2) ∧ Fr w.heap.size rb w W3) ⟨HX5.out.alloc _, HB5.out.alloc _, HH5.out.alloc _, HC5.out.alloc _, HF5.out.alloc HF5.out.size _⟩ ?_
      rintro W3 ⟨hX6, hB6, hH6, hC6, hF6⟩
      have hs6 := hB6.lt
      refine (joined_ok (hd r).text W3 hH6 hC6 (fun j hj => by omega)).mono ?_
      rintro e'' w5 ⟨g, rfl, hJ, hb6⟩
      have hB7 := hB6.below hb6
      obtain ⟨b0, b1, b2, b3, b4⟩ := hB7.cells
      obtain ⟨z0, z1, z2, z3, z4⟩ := hB7.frozen
      have hs7 := hB7.lt
      have HB7 := Lib.hid hB7
      have HX7 := Lib.hid (hX6.below hb6)
      have HF7 := Lib.hid (hF6.onB hF6.size hb6)
      have HJ := Lib.hid hJ
      clear hB7 hX6 hB6 hF6 hb6 hH6 hC6 hJ
      go_wp2
      obtain ⟨d0, d1, d2, d3, d4⟩ := (HB7.out.set5 (.string ⟨(hd r).text.toArray⟩) (.string ⟨#[]⟩) (.int .i64 0) (.slice (some ⟨g, 0, none⟩) 2 2) (.int .i64 p)).cells
      rw [HRE.out]
      refine bodyPost_ret (v := .tuple #[.agg #[.string ⟨(hd r).text.toArray⟩, .string ⟨#[]⟩, .int .i64 0, .slice (some ⟨g, 0, none⟩) 2 2, .int .i64 p], .nilIface]) (by simp [results, Tryz.results180, go_sem, d0, d1, d2, d3, d4]) rfl ⟨_, _, _, _, _, _, _, rfl, ?_, ?_, ?_⟩
      · exact (HJ.out.far5S (by omega) _ _ _ _ _).wide (fun j hj hS => by simp at hj; unfold Rg; simp; omega)
      · exact HX7.out.set5 HB7.out (by omega) _ _ _ _ _
      · exact HF7.out.set5 (Nat.le_refl _) _ _ _ _ _
set_option maxHeartbeats 2000000 in
theorem impl_rc {d : Dp} {lv : Nat} (hR : RC 173 (disjX d) lv) (hD : DC 169 d.i lv) : RC 169 (implX d) lv := by
  intro xb rb w us h
  have hx := h.ltx
  have hr := h.ltr
  have HR := Lib.hid hR
  have HD := Lib.hid hD
  have HX := Lib.hid h
  clear h hR hD
  go_enter Tryz.func169, Tryz.ntmps169
  go_wp2_with fail
  refine calls_gen (P := fun W => XR W xb rb us lv ∧ Box W w.heap.size (.string ⟨#[]⟩) (.string ⟨#[]⟩) (.int .i64 0) (.slice none 0 0) (.int .i64 0) ∧ Fr w.heap.size rb w W) ⟨HX.out.alloc _, Box.new _ _ _ _ _ _, (Fr.refl _ _ _).alloc (Nat.le_refl _) _⟩ ?_
  rintro W ⟨hX, hB, hF⟩
  refine (HR.out xb rb W us hX).mono ?_
  intro e w1 hp
  have hs := hB.lt
  cases hres : disjX d us with
  | er c q =>
    rw [hres] at hp
    obtain ⟨b, rfl, hbb, hA, hF1⟩ := hp
    have hB1 := hB.fr hF1 (by omega)
    obtain ⟨b0, b1, b2, b3, b4⟩ := hB1.cells
    obtain ⟨z0, z1, z2, z3, z4⟩ := hB1.frozen
    have hs1 := hB1.lt
    have HB1 := Lib.hid hB1
    have HA := Lib.hid hA
    have HF1 := Lib.hid (hF.on hF.size hF1)
    have HRE := Lib.hid (show implX d us = .er c q by rw [implX, hres]; rfl)
    clear hB1 hA hF hF1 hX hB hres
    go_wp2
    obtain ⟨d0, d1, d2, d3, d4⟩ := ((HB1.out.set5 (.string ⟨#[]⟩) (.string ⟨#[]⟩) (.int .i64 0) (.slice none 0 0) (.int .i64 0)).alloc (.cells #[.string ⟨#[]⟩, .string ⟨#[]⟩, .int .i64 0, .slice none 0 0, .int .i64 0] 57)).cells
    rw [HRE.out]
    refine bodyPost_ret (v := .tuple #[.agg #[.string ⟨#[]⟩, .string ⟨#[]⟩, .int .i64 0, .slice none 0 0, .int .i64 0], .iface 101 (.pointer (some ⟨b, 0, none⟩))]) (by simp [results, Tryz.results169, go_sem, d0, d1, d2, d3, d4]) rfl ⟨b, rfl, by omega, ?_, ?_⟩
    · exact (HA.out.far5 (by omega) _ _ _ _ _).alloc _
    · exact (HF1.out.set5 (Nat.le_refl _) _ _ _ _ _).alloc (by simp; omega) _
  | ok x r =>
    rw [hres] at hp
    obtain ⟨o, nm, n, A, ll, cap, p, rfl, hC, hX1, hF1⟩ := hp
    have hB1 := hB.fr hF1 (by omega)
    have hs1 := hB1.lt
    obtain ⟨c0, _, _⟩ := hX1.cells
    have hx1 := hX1.ltx
    have HB1 := Lib.hid hB1
    have HX1 := Lib.hid hX1
    have HC1 := Lib.hid hC
    have HF1 := Lib.hid (hF.on hF.size hF1)
    have HR0 := Lib.hid hres
    clear hB1 hX1 hC hF hF1 hX hB hres
    go_wp2_with fail
    refine calls_gen (P := fun W2 => XR W2 xb rb r lv ∧ Box W2 w.heap.size (.string ⟨#[]⟩) (.string ⟨#[]⟩) (.int .i64 0) (.slice none 0 0) (.int .i64 0) ∧ Box W2 w1.heap.size (.string o) (.string nm) (.int .i64 n) (.slice A ll cap) (.int .i64 p) ∧ HC W2 57 W.heap.size w1.heap.size x (exC o nm n A ll cap p) ∧ Fr w.heap.size rb w W2) ⟨HX1.out.alloc _, HB1.out.alloc _, Box.new _ _ _ _ _ _, HC1.out.alloc _, HF1.out.alloc HF1.out.size _⟩ ?_
    rintro W2 ⟨hX2, hB2, hE2, hC2, hF2⟩
    have hs2 := hE2.lt
    clear c0 hx1
    by_cases hi : isT (hd r) [61, 62] = true
    rotate_left
    · have hi' : isT (hd r) [61, 62] = false := by simpa using hi
      refine (hX2.skip_no ⟨#[61, 62]⟩ hi').mono ?_
      rintro e w3 ⟨rfl, hb3⟩
      have hB3 := hB2.below hb3
      have hE3 := hE2.below hb3
      have hC3 := hC2.below hb3
      have hs3 := hE3.lt
      obtain ⟨b0, b1, b2, b3, b4⟩ := hB3.cells
      obtain ⟨z0, z1, z2, z3, z4⟩ := hB3.frozen
      obtain ⟨e0, e1, e2, e3, e4⟩ := hE3.cells
      have HB3 := Lib.hid hB3
      have HC3 := Lib.hid hC3
      have HX3 := Lib.hid (hX2.below hb3)
      have HF3 := Lib.hid (hF2.onB hF2.size hb3)
      have HRE := Lib.hid (show implX d us = .ok x r by rw [implX, HR0.out]; simp [implG, hi'])
      clear hB2 hE2 hC2 hX2 hF2 hB3 hE3 hC3 hb3 hi hi'
      go_wp2
      obtain ⟨d0, d1, d2, d3, d4⟩ := (HB3.out.set5 (.string o) (.string nm) (.int .i64 n) (.slice A ll cap) (.int .i64 p)).cells
      rw [HRE.out]
      refine bodyPost_ret (v := .tuple #[.agg #[.string o, .string nm, .int .i64 n, .slice A ll cap, .int .i64 p], .nilIface]) (by simp [results, Tryz.results169, go_sem, d0, d1, d2, d3, d4]) rfl ⟨o, nm, n, A, ll, cap, p, rfl, ?_, ?_, ?_⟩
      · exact (HC3.out.far5 (.inl (by omega)) _ _ _ _ _).mono (by omega) (by simp; omega)
      · exact HX3.out.set5 HB3.out (by omega) _ _ _ _ _
      · exact HF3.out.set5 (Nat.le_refl _) _ _ _ _ _
    refine (hX2.skip_yes ⟨#[61, 62]⟩ hi).mono ?_
    rintro e w3 ⟨rfl, hX3, hF3⟩
    have HB3 := Lib.hid (hB2.fr hF3 (by omega))
    have HE3 := Lib.hid (hE2.fr hF3 (by omega))
    have HC3 := Lib.hid (hC2.fr hF3 (by omega))
    have HX3 := Lib.hid hX3
    have HF3 := Lib.hid (hF2.on hF2.size hF3)
    have HI := Lib.hid hi
    clear hB2 hE2 hC2 hX2 hF2 hX3 hF3 hi
    go_wp2_with fail
    have hs3 := HE3.out.lt
    have hs3' := HB3.out.lt
    refine (HD.out xb rb w3 r.tail HX3.out).mono ?_
    intro e w4 hp
    cases hft : d.i r.tail with
    | er c q =>
      rw [hft] at hp
      obtain ⟨b, rfl, hbb, hA, hF5⟩ := hp
      have hE5 := HE3.out.fr hF5 (by omega)
      have hB5 := HB3.out.fr hF5 (by omega)
      obtain ⟨e0, e1, e2, e3, e4⟩ := hE5.cells
      have hs5 := hE5.lt
      have HA5 := Lib.hid hA
      have HB5 := Lib.hid hB5
      have HF5 := Lib.hid (HF3.out.on HF3.out.size hF5)
      have HRE := Lib.hid (show implX d us = .er c q by rw [implX, HR0.out]; simp [implG, HI.out, hft, joinX])
      clear hE5 hB5 hA hF5 hft
      go_wp2_with fail
      refine calls_gen (P := fun W3 => AtE W3 b q c ∧ Box W3 w.heap.size (.string ⟨#[]⟩) (.string ⟨#[]⟩) (.int .i64 0) (.slice none 0 0) (.int .i64 0) ∧ Fr w.heap.size rb w W3) ⟨HA5.out.alloc _, HB5.out.alloc _, HF5.out.alloc HF5.out.size _⟩ ?_
      rintro W3 ⟨hA6, hB6, hF6⟩
      refine (joined_er _ _ _ _ _ _ _ _ _ _ _ _ _ _ _ _ _ W3).mono ?_
      rintro e'' w5 ⟨rfl, hb6⟩
      have hB7 := hB6.below hb6
      obtain ⟨b0, b1, b2, b3, b4⟩ := hB7.cells
      obtain ⟨z0, z1, z2, z3, z4⟩ := hB7.frozen
      have hs7 := hB7.lt
      have HB7 := Lib.hid hB7
      have HA7 := Lib.hid (hA6.below hb6)
      have HF7 := Lib.hid (hF6.onB hF6.size hb6)
      clear hB7 hA6 hB6 hF6 hb6
      go_wp2
      obtain ⟨d0, d1, d2, d3, d4⟩ := (HB7.out.set5 (.string ⟨#[]⟩) (.string ⟨#[]⟩) (.int .i64 0) (.slice none 0 0) (.int .i64 0)).cells
      rw [HRE.out]
      refine bodyPost_ret (v := .tuple #[.agg #[.string ⟨#[]⟩, .string ⟨#[]⟩, .int .i64 0, .slice none 0 0, .int .i64 0], .iface 101 (.pointer (some ⟨b, 0, none⟩))]) (by simp [results, Tryz.results169, go_sem, d0, d1, d2, d3, d4]) rfl ⟨b, rfl, by omega, ?_, ?_⟩
      · exact HA7.out.far5 (by omega) _ _ _ _ _
      · exact HF7.out.set5 (Nat.le_refl _) _ _ _ _ _
    | ok y r2 =>
      rw [hft] at hp
      obtain ⟨o2, nm2, n2, A2, ll2, cap2, p2, rfl, hC5, hX5, hF5⟩ := hp
      have hE5 := HE3.out.fr hF5 (by omega)
      have hB5 := HB3.out.fr hF5 (by omega)
      obtain ⟨e0, e1, e2, e3, e4⟩ := hE5.cells
      have hs5 := hE5.lt
      have HX5 := Lib.hid hX5
      have HB5 := Lib.hid hB5
      have HH5 := Lib.hid (show HS w4 57 (fun j => w.heap.size < j) x (exC o nm n A ll cap p) from (HC3.out.fr hF5 (by omega)).wide (fun j _ hj => by unfold Rg at hj; omega))
      have HC5 := Lib.hid (show HS w4 57 (fun j => w.heap.size < j) y (exC o2 nm2 n2 A2 ll2 cap2 p2) from hC5.wide (fun j _ hj => by unfold Rg at hj; omega))
      have HF5 := Lib.hid (HF3.out.on HF3.out.size hF5)
      have HRE := Lib.hid (show implX d us = .ok (.bin [61, 62] x y x.pos) r2 by rw [implX, HR0.out]; simp [implG, HI.out, hft, joinX])
      clear hE5 hB5 hX5 hC5 hF5 hft
      go_wp2_with fail
      refine calls_gen (P := fun W3 => XR W3 xb rb r2 lv ∧ Box W3 w.heap.size (.string ⟨#[]⟩) (.string ⟨#[]⟩) (.int .i64 0) (.slice none 0 0) (.int .i64 0) ∧ HS W3 57 (fun j => w.heap.size < j) x (exC o nm n A ll cap p) ∧ HS W3 57 (fun j => w.heap.size < j) y (exC o2 nm2 n2 A2 ll2 cap2 p2) ∧ Fr w.heap.size rb w W3) ⟨HX5.out.alloc _, HB5.out.alloc _, HH5.out.alloc _, HC5.out.alloc _, HF5.out.alloc HF5.out.size _⟩ ?_
      rintro W3 ⟨hX6, hB6, hH6, hC6, hF6⟩
      have hs6 := hB6.lt
      refine (joined_ok [61, 62] W3 hH6 hC6 (fun j hj => by omega)).mono ?_
      rintro e'' w5 ⟨g, rfl, hJ, hb6⟩
      have hB7 := hB6.below hb6
      obtain ⟨b0, b1, b2, b3, b4⟩ := hB7.cells
      obtain ⟨z0, z1, z2, z3, z4⟩ := hB7.frozen
      have hs7 := hB7.lt
      have HB7 := Lib.hid hB7
      have HX7 := Lib.hid (hX6.below hb6)
      have HF7 := Lib.hid (hF6.onB hF6.size hb6)
      have HJ := Lib.hid hJ
      clear hB7 hX6 hB6 hF6 hb6 hH6 hC6 hJ
      go_wp2
      obtain ⟨d0, d1, d2, d3, d4⟩ := (HB7.out.set5 (.string ⟨#[61, 62]⟩) (.string ⟨#[]⟩) (.int .i64 0) (.slice (some ⟨g, 0, none⟩) 2 2) (.int .i64 p)).cells
      rw [HRE.out]
      refine bodyPost_ret (v := .tuple #[.agg #[.string ⟨#[61, 62]⟩, .string ⟨#[]⟩, .int .i64 0, .slice (some ⟨g, 0, none⟩) 2 2, .int .i64 p], .nilIface]) (by simp [results, Tryz.results169, go_sem, d0, d1, d2, d3, d4]) rfl ⟨_, _, _, _, _, _, _, rfl, ?_, ?_, ?_⟩
      · exact (HJ.out.far5S (by omega) _ _ _ _ _).wide (fun j hj hS => by simp at hj; unfold Rg; simp; omega)
      · exact HX7.out.set5 HB7.out (by omega) _ _ _ _ _
      · exact HF7.out.set5 (Nat.le_refl _) _ _ _ _ _
end
section
open Go.RowKit

theorem cond_hs {w : World} {S : Nat → Prop} {a b c : Ex} {o nm o2 nm2 o3 nm3 : ByteArray} {n p n2 p2 n3 p3 : Int} {A A2 A3 : Option Addr} {ll cap ll2 cap2 ll3 cap3 g : Nat} (ha : HS w 57 S a (exC o nm n A ll cap p)) (hb : HS w 57 S b (exC o2 nm2 n2 A2 ll2 cap2 p2)) (hc : HS w 57 S c (exC o3 nm3 n3 A3 ll3 cap3 p3)) (hg : S g)
    (hw : w.heap[g]? = some (.cells #[.string o, .string nm, .int .i64 n, .slice A ll cap, .int .i64 p, .string o2, .string nm2, .int .i64 n2, .slice A2 ll2 cap2, .int .i64 p2, .string o3, .string nm3, .int .i64 n3, .slice A3 ll3 cap3, .int .i64 p3] 57 (0, 0))) : HS w 57 S (.cond a b c a.pos) (exC ⟨#[63]⟩ ⟨#[]⟩ 0 (some ⟨g, 0, none⟩) 3 3 p) := by
  refine ⟨g, 3, _, _, _, ?_, ⟨hg, _, hw, ?_⟩, ha, hb, hc⟩
  · rw [ha.posn.1]; rfl
  · intro j u hu
    simpa [exC] using hu
set_option maxHeartbeats 4000000 in
set_option maxRecDepth 100000 in
theorem choice_rc {d : Dp} {lv : Nat} (hR : RC 169 (implX d) lv) (hD : DC 160 d.c lv) : RC 160 (condX d) lv := by
  intro xb rb w us h
  have hx := h.ltx
  have hr := h.ltr
  have HR := Lib.hid hR
  have HD := Lib.hid hD
  have HX := Lib.hid h
  clear h hR hD
  go_enter Tryz.func160, Tryz.ntmps160
  go_wp2_with fail
  refine calls_gen (P := fun W => XR W xb rb us lv ∧ Box W w.heap.size (.string ⟨#[]⟩) (.string ⟨#[]⟩) (.int .i64 0) (.slice none 0 0) (.int .i64 0) ∧ Fr w.heap.size rb w W) ⟨HX.out.alloc _, Box.new _ _ _ _ _ _, (Fr.refl _ _ _).alloc (Nat.le_refl _) _⟩ ?_
  rintro W ⟨hX, hB, hF⟩
  refine (HR.out xb rb W us hX).mono ?_
  intro e w1 hp
  have hs := hB.lt
  cases hres : implX d us with
  | er c q =>
    rw [hres] at hp
    obtain ⟨b, rfl, hbb, hA, hF1⟩ := hp
    have HB1 := Lib.hid (hB.fr hF1 (by omega))
    have HA := Lib.hid hA
    have HF1 := Lib.hid (hF.on hF.size hF1)
    have HRE := Lib.hid (show condX d us = .er c q by rw [condX, hres]; rfl)
    clear hA hF hF1 hX hB hres
    obtain ⟨b0, b1, b2, b3, b4⟩ := HB1.out.cells
    obtain ⟨z0, z1, z2, z3, z4⟩ := HB1.out.frozen
    have hsN := HB1.out.lt
    go_wp2
    obtain ⟨d0, d1, d2, d3, d4⟩ := ((HB1.out.set5 (.string ⟨#[]⟩) (.string ⟨#[]⟩) (.int .i64 0) (.slice none 0 0) (.int .i64 0)).alloc (.cells #[.string ⟨#[]⟩, .string ⟨#[]⟩, .int .i64 0, .slice none 0 0, .int .i64 0] 57)).cells
    rw [HRE.out]
    refine bodyPost_ret (v := .tuple #[.agg #[.string ⟨#[]⟩, .string ⟨#[]⟩, .int .i64 0, .slice none 0 0, .int .i64 0], .iface 101 (.pointer (some ⟨b, 0, none⟩))]) (by simp [results, Tryz.results160, go_sem, d0, d1, d2, d3, d4]) rfl ⟨b, rfl, by omega, ?_, ?_⟩
    · exact (HA.out.far5 (by omega) _ _ _ _ _).alloc _
    · exact (HF1.out.set5 (Nat.le_refl _) _ _ _ _ _).alloc (by simp; omega) _
  | ok x r =>
    rw [hres] at hp
    obtain ⟨o, nm, n, A, ll, cap, p, rfl, hC, hX1, hF1⟩ := hp
    have hB1 := hB.fr hF1 (by omega)
    have hs1 := hB1.lt
    obtain ⟨c0, _, _⟩ := hX1.cells
    have hx1 := hX1.ltx
    have HB1 := Lib.hid hB1
    have HX1 := Lib.hid hX1
    have HC1 := Lib.hid hC
    have HF1 := Lib.hid (hF.on hF.size hF1)
    have HR0 := Lib.hid hres
    clear hB1 hX1 hC hF hF1 hX hB hres
    go_wp2_with fail
    refine calls_gen (P := fun W2 => XR W2 xb rb r lv ∧ Box W2 w.heap.size (.string ⟨#[]⟩) (.string ⟨#[]⟩) (.int .i64 0) (.slice none 0 0) (.int .i64 0) ∧ Box W2 w1.heap.size (.string o) (.string nm) (.int .i64 n) (.slice A ll cap) (.int .i64 p) ∧ HC W2 57 W.heap.size w1.heap.size x (exC o nm n A ll cap p) ∧ Fr w.heap.size rb w W2) ⟨HX1.out.alloc _, HB1.out.alloc _, Box.new _ _ _ _ _ _, HC1.out.alloc _, HF1.out.alloc HF1.out.size _⟩ ?_
    rintro W2 ⟨hX2, hB2, hE2, hC2, hF2⟩
    have hs2 := hE2.lt
    clear c0 hx1
    by_cases hi : isT (hd r) [63] = true
    rotate_left
    · have hi' : isT (hd r) [63] = false := by simpa using hi
      refine (hX2.skip_no ⟨#[63]⟩ hi').mono ?_
      rintro e w3 ⟨rfl, hb3⟩
      have hB3 := hB2.below hb3
      have hE3 := hE2.below hb3
      have hC3 := hC2.below hb3
      have hs3 := hE3.lt
      obtain ⟨b0, b1, b2, b3, b4⟩ := hB3.cells
      obtain ⟨z0, z1, z2, z3, z4⟩ := hB3.frozen
      obtain ⟨e0, e1, e2, e3, e4⟩ := hE3.cells
      have HB3 := Lib.hid hB3
      have HC3 := Lib.hid hC3
      have HX3 := Lib.hid (hX2.below hb3)
      have HF3 := Lib.hid (hF2.onB hF2.size hb3)
      have HRE := Lib.hid (show condX d us = .ok x r by rw [condX, HR0.out]; simp [condG, hi'])
      clear hB2 hE2 hC2 hX2 hF2 hB3 hE3 hC3 hb3 hi hi'
      go_wp2
      obtain ⟨d0, d1, d2, d3, d4⟩ := (HB3.out.set5 (.string o) (.string nm) (.int .i64 n) (.slice A ll cap) (.int .i64 p)).cells
      rw [HRE.out]
      refine bodyPost_ret (v := .tuple #[.agg #[.string o, .string nm, .int .i64 n, .slice A ll cap, .int .i64 p], .nilIface]) (by simp [results, Tryz.results160, go_sem, d0, d1, d2, d3, d4]) rfl ⟨o, nm, n, A, ll, cap, p, rfl, ?_, ?_, ?_⟩
      · exact (HC3.out.far5 (.inl (by omega)) _ _ _ _ _).mono (by omega) (by simp; omega)
      · exact HX3.out.set5 HB3.out (by omega) _ _ _ _ _
      · exact HF3.out.set5 (Nat.le_refl _) _ _ _ _ _
    refine (hX2.skip_yes ⟨#[63]⟩ hi).mono ?_
    rintro e w3 ⟨rfl, hX3, hF3⟩
    have HB3 := Lib.hid (hB2.fr hF3 (by omega))
    have HE3 := Lib.hid (hE2.fr hF3 (by omega))
    have HC3 := Lib.hid (show HS w3 57 (fun j => w.heap.size < j) x (exC o nm n A ll cap p) from (hC2.fr hF3 (by omega)).wide (fun j _ hj => by unfold Rg at hj; omega))
    have HX3 := Lib.hid hX3
    have HF3 := Lib.hid (hF2.on hF2.size hF3)
    have HI := Lib.hid hi
    clear hB2 hE2 hC2 hX2 hF2 hX3 hF3 hi
    go_wp2_with fail
    have hs3 := HE3.out.lt
    have hs3' := HB3.out.lt
    refine (HD.out xb rb w3 r.tail HX3.out).mono ?_
    intro e w4 hp
    cases hft : d.c r.tail with
    | er c q =>
      rw [hft] at hp
      obtain ⟨b, rfl, hbb, hA, hF5⟩ := hp
      have HB5 := Lib.hid (HB3.out.fr hF5 (by omega))
      have HA5 := Lib.hid hA
      have HF5 := Lib.hid (HF3.out.on HF3.out.size hF5)
      have HRE := Lib.hid (show condX d us = .er c q by rw [condX, HR0.out]; simp [condG, HI.out, hft, condH])
      clear hA hF5 hft
      obtain ⟨b0, b1, b2, b3, b4⟩ := HB5.out.cells
      obtain ⟨z0, z1, z2, z3, z4⟩ := HB5.out.frozen
      have hsN := HB5.out.lt
      go_wp2
      obtain ⟨d0, d1, d2, d3, d4⟩ := ((HB5.out.set5 (.string ⟨#[]⟩) (.string ⟨#[]⟩) (.int .i64 0) (.slice none 0 0) (.int .i64 0)).alloc (.cells #[.string ⟨#[]⟩, .string ⟨#[]⟩, .int .i64 0, .slice none 0 0, .int .i64 0] 57)).cells
      rw [HRE.out]
      refine bodyPost_ret (v := .tuple #[.agg #[.string ⟨#[]⟩, .string ⟨#[]⟩, .int .i64 0, .slice none 0 0, .int .i64 0], .iface 101 (.pointer (some ⟨b, 0, none⟩))]) (by simp [results, Tryz.results160, go_sem, d0, d1, d2, d3, d4]) rfl ⟨b, rfl, by omega, ?_, ?_⟩
      · exact (HA5.out.far5 (by omega) _ _ _ _ _).alloc _
      · exact (HF5.out.set5 (Nat.le_refl _) _ _ _ _ _).alloc (by simp; omega) _
    | ok y r2 =>
      rw [hft] at hp
      obtain ⟨o2, nm2, n2, A2, ll2, cap2, p2, rfl, hC5, hX5, hF5⟩ := hp
      have HB5 := Lib.hid (HB3.out.fr hF5 (by omega))
      have HE5 := Lib.hid (HE3.out.fr hF5 (by omega))
      have HX5 := Lib.hid hX5
      have HH5 := Lib.hid (HC3.out.frS hF5 (by omega))
      have HC5 := Lib.hid (show HS w4 57 (fun j => w.heap.size < j) y (exC o2 nm2 n2 A2 ll2 cap2 p2) from hC5.wide (fun j _ hj => by unfold Rg at hj; omega))
      have HF5 := Lib.hid (HF3.out.on HF3.out.size hF5)
      have HR1 := Lib.hid hft
      obtain ⟨c0, _, _⟩ := hX5.cells
      have hx5 := hX5.ltx
      have hs5 := HE5.out.lt
      clear hX5 hC5 hF5 hft
      go_wp2_with fail
      refine calls_gen (P := fun W3 => XR W3 xb rb r2 lv ∧ Box W3 w.heap.size (.string ⟨#[]⟩) (.string ⟨#[]⟩) (.int .i64 0) (.slice none 0 0) (.int .i64 0) ∧ Box W3 w1.heap.size (.string o) (.string nm) (.int .i64 n) (.slice A ll cap) (.int .i64 p) ∧ Box W3 w4.heap.size (.string o2) (.string nm2) (.int .i64 n2) (.slice A2 ll2 cap2) (.int .i64 p2) ∧ HS W3 57 (fun j => w.heap.size < j) x (exC o nm n A ll cap p) ∧ HS W3 57 (fun j => w.heap.size < j) y (exC o2 nm2 n2 A2 ll2 cap2 p2) ∧ Fr w.heap.size rb w W3) ⟨HX5.out.alloc _, HB5.out.alloc _, HE5.out.alloc _, Box.new _ _ _ _ _ _, HH5.out.alloc _, HC5.out.alloc _, HF5.out.alloc HF5.out.size _⟩ ?_
      rintro W3 ⟨hX6, hB6, hE6, hD6, hH6, hC6, hF6⟩
      have hs6 := hD6.lt
      clear c0 hx5
      by_cases hi2 : isT (hd r2) [58] = true
      rotate_left
      · have hi' : isT (hd r2) [58] = false := by simpa using hi2
        refine (hX6.want_no ⟨#[58]⟩ hi').mono ?_
        rintro e w5 ⟨b, rfl, hbb, hA, hb7⟩
        have HB7 := Lib.hid (hB6.below hb7)
        have HA7 := Lib.hid hA
        have HF7 := Lib.hid (hF6.onB hF6.size hb7)
        have HRE := Lib.hid (show condX d us = .er 20 (hd r2).pos by rw [condX, HR0.out]; simp [condG, HI.out, HR1.out, condH, hi'])
        clear hX6 hB6 hE6 hD6 hH6 hC6 hF6 hA hb7 hi2 hi'
        obtain ⟨b0, b1, b2, b3, b4⟩ := HB7.out.cells
        obtain ⟨z0, z1, z2, z3, z4⟩ := HB7.out.frozen
        have hsN := HB7.out.lt
        go_wp2
        obtain ⟨d0, d1, d2, d3, d4⟩ := ((HB7.out.set5 (.string ⟨#[]⟩) (.string ⟨#[]⟩) (.int .i64 0) (.slice none 0 0) (.int .i64 0))).cells
        rw [HRE.out]
        refine bodyPost_ret (v := .tuple #[.agg #[.string ⟨#[]⟩, .string ⟨#[]⟩, .int .i64 0, .slice none 0 0, .int .i64 0], .iface 101 (.pointer (some ⟨b, 0, none⟩))]) (by simp [results, Tryz.results160, go_sem, d0, d1, d2, d3, d4]) rfl ⟨b, rfl, by omega, ?_, ?_⟩
        · exact (HA7.out.far5 (by omega) _ _ _ _ _)
        · exact (HF7.out.set5 (Nat.le_refl _) _ _ _ _ _)
      refine (hX6.want_yes ⟨#[58]⟩ hi2).mono ?_
      rintro e w5 ⟨rfl, hX7, hF7⟩
      have HB7 := Lib.hid (hB6.fr hF7 (by omega))
      have HE7 := Lib.hid (hE6.fr hF7 (by omega))
      have HD7 := Lib.hid (hD6.fr hF7 (by omega))
      have HH7 := Lib.hid (hH6.frS hF7 (by omega))
      have HC7 := Lib.hid (hC6.frS hF7 (by omega))
      have HX7 := Lib.hid hX7
      have HF7 := Lib.hid (hF6.on hF6.size hF7)
      have HI2 := Lib.hid hi2
      clear hX6 hB6 hE6 hD6 hH6 hC6 hF6 hX7 hF7 hi2
      go_wp2_with fail
      have hs7 := HE7.out.lt
      have hs7' := HB7.out.lt
      have hs7'' := HD7.out.lt
      refine (HD.out xb rb w5 r2.tail HX7.out).mono ?_
      intro e w6 hp
      cases hft : d.c r2.tail with
      | er c q =>
        rw [hft] at hp
        obtain ⟨b, rfl, hbb, hA, hF8⟩ := hp
        have HB8 := Lib.hid (HB7.out.fr hF8 (by omega))
        have HA8 := Lib.hid hA
        have HF8 := Lib.hid (HF7.out.on HF7.out.size hF8)
        have HRE := Lib.hid (show condX d us = .er c q by rw [condX, HR0.out]; simp [condG, HI.out, HR1.out, condH, HI2.out, hft, condE])
        clear hA hF8 hft
        obtain ⟨b0, b1, b2, b3, b4⟩ := HB8.out.cells
        obtain ⟨z0, z1, z2, z3, z4⟩ := HB8.out.frozen
        have hsN := HB8.out.lt
        go_wp2
        obtain ⟨d0, d1, d2, d3, d4⟩ := ((HB8.out.set5 (.string ⟨#[]⟩) (.string ⟨#[]⟩) (.int .i64 0) (.slice none 0 0) (.int .i64 0)).alloc (.cells #[.string ⟨#[]⟩, .string ⟨#[]⟩, .int .i64 0, .slice none 0 0, .int .i64 0] 57)).cells
        rw [HRE.out]
        refine bodyPost_ret (v := .tuple #[.agg #[.string ⟨#[]⟩, .string ⟨#[]⟩, .int .i64 0, .slice none 0 0, .int .i64 0], .iface 101 (.pointer (some ⟨b, 0, none⟩))]) (by simp [results, Tryz.results160, go_sem, d0, d1, d2, d3, d4]) rfl ⟨b, rfl, by omega, ?_, ?_⟩
        · exact (HA8.out.far5 (by omega) _ _ _ _ _).alloc _
        · exact (HF8.out.set5 (Nat.le_refl _) _ _ _ _ _).alloc (by simp; omega) _
      | ok z r3 =>
        rw [hft] at hp
        obtain ⟨o3, nm3, n3, A3, ll3, cap3, p3, rfl, hC8, hX8, hF8⟩ := hp
        have hB8 := HB7.out.fr hF8 (by omega)
        have hE8 := HE7.out.fr hF8 (by omega)
        have hD8 := HD7.out.fr hF8 (by omega)
        obtain ⟨b0, b1, b2, b3, b4⟩ := hB8.cells
        obtain ⟨z0, z1, z2, z3, z4⟩ := hB8.frozen
        obtain ⟨e0, e1, e2, e3, e4⟩ := hE8.cells
        obtain ⟨q0, q1, q2, q3, q4⟩ := hD8.cells
        have hs8 := hE8.lt
        have hs8' := hD8.lt
        have hs8'' := hB8.lt
        have HB8 := Lib.hid hB8
        have HX8 := Lib.hid hX8
        have HH8 := Lib.hid (HH7.out.frS hF8 (by omega))
        have HC8 := Lib.hid (HC7.out.frS hF8 (by omega))
        have HG8 := Lib.hid (show HS w6 57 (fun j => w.heap.size < j) z (exC o3 nm3 n3 A3 ll3 cap3 p3) from hC8.wide (fun j _ hj => by unfold Rg at hj; omega))
        have HF8 := Lib.hid (HF7.out.on HF7.out.size hF8)
        have HRE := Lib.hid (show condX d us = .ok (.cond x y z x.pos) r3 by rw [condX, HR0.out]; simp [condG, HI.out, HR1.out, condH, HI2.out, hft, condE])
        clear hB8 hE8 hD8 hX8 hC8 hF8 hft
        go_wp2
        obtain ⟨d0, d1, d2, d3, d4⟩ := (((HB8.out.set5 (.string ⟨#[63]⟩) (.string ⟨#[]⟩) (.int .i64 0) (.slice (some ⟨w6.heap.size + 1, 0, none⟩) 3 3) (.int .i64 p)).alloc (.cells #[.string o3, .string nm3, .int .i64 n3, .slice A3 ll3 cap3, .int .i64 p3] 57)).alloc (.cells #[.string o, .string nm, .int .i64 n, .slice A ll cap, .int .i64 p, .string o2, .string nm2, .int .i64 n2, .slice A2 ll2 cap2, .int .i64 p2, .string o3, .string nm3, .int .i64 n3, .slice A3 ll3 cap3, .int .i64 p3] 57)).cells
        rw [HRE.out]
        refine bodyPost_ret (v := .tuple #[.agg #[.string ⟨#[63]⟩, .string ⟨#[]⟩, .int .i64 0, .slice (some ⟨w6.heap.size + 1, 0, none⟩) 3 3, .int .i64 p], .nilIface]) (by simp [results, Tryz.results160, go_sem, d0, d1, d2, d3, d4]) rfl ⟨_, _, _, _, _, _, _, rfl, ?_, ?_, ?_⟩
        · refine HS.wide (S := fun j => w.heap.size < j) (fun j hj hS => by simp at hj; unfold Rg; simp; omega) ?_
          refine cond_hs (o := o) (nm := nm) (n := n) (A := A) (ll := ll) (cap := cap) (p := p) (o2 := o2) (nm2 := nm2) (n2 := n2) (A2 := A2) (ll2 := ll2) (cap2 := cap2) (p2 := p2) (o3 := o3) (nm3 := nm3) (n3 := n3) (A3 := A3) (ll3 := ll3) (cap3 := cap3) (p3 := p3) ?_ ?_ ?_ (by omega) ?_
          · exact ((HH8.out.far5S (by omega) _ _ _ _ _).alloc _).alloc _
          · exact ((HC8.out.far5S (by omega) _ _ _ _ _).alloc _).alloc _
          · exact ((HG8.out.far5S (by omega) _ _ _ _ _).alloc _).alloc _
          · exact heap_new_at (by simp) _
        · exact ((HX8.out.set5 HB8.out (by omega) _ _ _ _ _).alloc _).alloc _
        · exact ((HF8.out.set5 (Nat.le_refl _) _ _ _ _ _).alloc (by simp; omega) _).alloc (by simp; omega) _

/-- All that is read at a level. -/
structure DCs (lv : Nat) : Prop where
  c : DC 160 (dp lv).c lv
  i : DC 169 (dp lv).i lv
  n : DC 178 (dp lv).n lv
  m : DC 183 (dp lv).m lv
structure RCs (lv : Nat) : Prop where
  c : RC 160 (condX (dp lv)) lv
  i : RC 169 (implX (dp lv)) lv
  n : RC 178 (negX (dp lv)) lv
  m : RC 183 (minusX (dp lv)) lv
theorem rcs_of {lv : Nat} (h : DCs lv) : RCs lv := by
  have s := shr_lv lv
  have m := minus_rc h.m (atom_rc h.c)
  have p := product_rc m s.m
  have su := sum_rc p s.p
  have r := comp_rc su
  have n := neg_rc h.n r
  have a := conj_rc n s.n
  have o := disj_rc a s.a
  have i := impl_rc o h.i
  exact ⟨choice_rc i h.c, i, n, m⟩
theorem dcs_all : ∀ lv, DCs lv
  | 0 => ⟨fun _ _ w _ h => deeper_no w h _ _, fun _ _ w _ h => deeper_no w h _ _, fun _ _ w _ h => deeper_no w h _ _, fun _ _ w _ h => deeper_no w h _ _⟩
  | l + 1 => by
    have h := rcs_of (dcs_all l)
    exact ⟨fun _ _ w _ hX => deeper_choice h.c w hX, fun _ _ w _ hX => deeper_impl h.i w hX, fun _ _ w _ hX => deeper_neg h.n w hX, fun _ _ w _ hX => deeper_minus h.m w hX⟩
end
end Go.Proofs.YtodijgndbjfbgaaGreatDoor
