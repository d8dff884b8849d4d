/-
  An atom, what has a sign ahead, minus and negation: walked.
-/
import Derived.Test.YtodijgndbjfbgaaGreatDoorWB
namespace Go.Proofs.YtodijgndbjfbgaaGreatDoor
open Go.RowKit

set_option maxHeartbeats 2000000 in
theorem atom_rc {d : Dp} {lv : Nat} (hD : DC 160 d.c lv) : RC 184 (atomX d) lv := by
  intro xb rb w us h
  have hx := h.ltx
  have hr := h.ltr
  have hf0 := field0
  have hf1 := field1
  have hf2 := field2
  have HD := Lib.hid hD
  have HX := Lib.hid h
  clear hD
  obtain ⟨c0, _, _⟩ := h.cells
  clear h
  go_enter Tryz.func184, Tryz.ntmps184
  go_wp2_with fail
  refine calls_gen (P := fun W => XR W xb rb us lv ∧ Box W w.heap.size (.string ⟨#[]⟩) (.string ⟨#[]⟩) (.int .i64 0) (.slice none 0 0) (.int .i64 0) ∧ Fr w.heap.size rb w W) ⟨HX.out.alloc _, Box.new _ _ _ _ _ _, (Fr.refl _ _ _).alloc (Nat.le_refl _) _⟩ ?_
  rintro W0 ⟨hX0, hB0, hF0⟩
  refine (hX0.peek).mono ?_
  rintro e W ⟨rfl, hb⟩
  have hX := hX0.below hb
  have hB := hB0.below hb
  have hF := hF0.onB hF0.size hb
  have hs0 := hB.lt
  clear hX0 hB0 hF0 hb c0
  obtain ⟨c0, _, _⟩ := hX.cells
  have hxw := hX.ltx
  have HX1 := Lib.hid hX
  have HB1 := Lib.hid hB
  have HF1 := Lib.hid hF
  clear hX hB hF
  by_cases hi : isT (hd us) [40] = true
  · have HI := Lib.hid (show atomX d us = enclosedX (hd us).pos (d.c us.tail) by simp [atomX, hi])
    have HS := Lib.hid (HX1.out.skip_yes ⟨#[40]⟩ hi)
    clear hi
    go_wp2_with fail
    with_reducible refine (HS.out).mono ?_
    rintro e W1 ⟨rfl, hX1, hF1⟩
    have HXW := Lib.hid hX1
    have HBW := Lib.hid (HB1.out.fr hF1 (by omega))
    have HFW := Lib.hid (HF1.out.on HF1.out.size hF1)
    clear hX1 hF1 c0
    go_wp2_with fail
    refine (enclosed_any HD.out W1 HXW.out (hd us).pos).mono ?_
    intro e w1 hp
    have hB := HBW.out
    have hF := HFW.out
    have hRR := HI.out
    have hs := hB.lt
    have HRR := Lib.hid hRR
    clear hRR
    cases hres : enclosedX (hd us).pos (d.c us.tail) with
    | er c q =>
      rw [hres] at hp
      obtain ⟨b, rfl, hbb, hA, hF1⟩ := hp
      have hB1 := hB.fr hF1 (by omega)
      obtain ⟨b0, b1, b2, b3, b4⟩ := hB1.cells
      obtain ⟨z0, z1, z2, z3, z4⟩ := hB1.frozen
      have hs1 := hB1.lt
      have HB1 := Lib.hid hB1
      have HA := Lib.hid hA
      have HF1 := Lib.hid (hF.on hF.size hF1)
      have HR := Lib.hid (HRR.out.trans hres)
      clear hB1 hA hF hF1 hB hres
      go_wp2
      obtain ⟨d0, d1, d2, d3, d4⟩ := (HB1.out.set5 (.string ⟨#[]⟩) (.string ⟨#[]⟩) (.int .i64 0) (.slice none 0 0) (.int .i64 0)).cells
      rw [HR.out]
      refine bodyPost_ret (v := .tuple #[.agg #[.string ⟨#[]⟩, .string ⟨#[]⟩, .int .i64 0, .slice none 0 0, .int .i64 0], .iface 101 (.pointer (some ⟨b, 0, none⟩))]) (by simp [results, Tryz.results184, go_sem, d0, d1, d2, d3, d4]) rfl ⟨b, rfl, by omega, ?_, ?_⟩
      · exact HA.out.far5 (by omega) _ _ _ _ _
      · exact HF1.out.set5 (Nat.le_refl _) _ _ _ _ _
    | ok x r =>
      rw [hres] at hp
      obtain ⟨o, nm, n, A, ll, cap, p, rfl, hC, hX1, hF1⟩ := hp
      have hB1 := hB.fr hF1 (by omega)
      obtain ⟨b0, b1, b2, b3, b4⟩ := hB1.cells
      obtain ⟨z0, z1, z2, z3, z4⟩ := hB1.frozen
      have hs1 := hB1.lt
      have HB1 := Lib.hid hB1
      have HC1 := Lib.hid hC
      have HX1 := Lib.hid hX1
      have HF1 := Lib.hid (hF.on hF.size hF1)
      have HR := Lib.hid (HRR.out.trans hres)
      clear hB1 hC hX1 hF hF1 hB hres
      go_wp2
      obtain ⟨d0, d1, d2, d3, d4⟩ := (HB1.out.set5 (.string o) (.string nm) (.int .i64 n) (.slice A ll cap) (.int .i64 p)).cells
      rw [HR.out]
      refine bodyPost_ret (v := .tuple #[.agg #[.string o, .string nm, .int .i64 n, .slice A ll cap, .int .i64 p], .nilIface]) (by simp [results, Tryz.results184, go_sem, d0, d1, d2, d3, d4]) rfl ⟨o, nm, n, A, ll, cap, p, rfl, ?_, ?_, ?_⟩
      · exact (HC1.out.far5 (.inl (by omega)) _ _ _ _ _).mono (by omega) (by simp)
      · exact HX1.out.set5 HB1.out (by omega) _ _ _ _ _
      · exact HF1.out.set5 (Nat.le_refl _) _ _ _ _ _
  · have hi' : isT (hd us) [40] = false := by simpa using hi
    have HS := Lib.hid (HX1.out.skip_no ⟨#[40]⟩ hi')
    have HI := Lib.hid hi'
    clear hi hi'
    go_wp2_with fail
    with_reducible refine (HS.out).mono ?_
    rintro e W1 ⟨rfl, hb1⟩
    have hX := HX1.out.below hb1
    have HX2 := Lib.hid hX
    have HB2 := Lib.hid (HB1.out.below hb1)
    have HF2 := Lib.hid (HF1.out.onB HF1.out.size hb1)
    clear hb1 c0
    obtain ⟨c0, _, _⟩ := hX.cells
    have hxw1 := hX.ltx
    clear hX
    by_cases h1 : (hd us).kind = 1
    · have HI1 := Lib.hid (show atomX d us = .ok (wordX (hd us).text (hd us).pos) us.tail by simp [atomX, HI.out, h1])
      have HN := Lib.hid (HX2.out.name_yes h1)
      clear h1
      go_wp2_with fail
      with_reducible refine (HN.out).mono ?_
      rintro e W2 ⟨rfl, hX3, hF3⟩
      have HX3 := Lib.hid hX3
      have HB3 := Lib.hid (HB2.out.fr hF3 (by omega))
      have HF3 := Lib.hid (HF2.out.on HF2.out.size hF3)
      clear hX3 hF3 c0
      go_wp2_with fail
      with_reducible refine (word_any ⟨(hd us).text.toArray⟩ (hd us).pos W2).mono ?_
      rintro e w3 ⟨c, rfl, hC, hb3⟩
      obtain ⟨nm, n, A, ll, cap, rfl⟩ := hC.form
      have hX4 := HX3.out.below hb3
      have hB4 := HB3.out.below hb3
      have hs2 := HB3.out.lt
      have hs3 := hB4.lt
      obtain ⟨b0, b1, b2, b3, b4⟩ := hB4.cells
      obtain ⟨z0, z1, z2, z3, z4⟩ := hB4.frozen
      have HX4 := Lib.hid hX4
      have HB4 := Lib.hid hB4
      have HC4 := Lib.hid hC
      have HF4 := Lib.hid (HF3.out.onB HF3.out.size hb3)
      have e5 : (exC ⟨(wordX (hd us).text (hd us).pos).op.toArray⟩ nm n A ll cap ((wordX (hd us).text (hd us).pos).pos : Int)).toArray = #[.string ⟨(wordX (hd us).text (hd us).pos).op.toArray⟩, .string nm, .int .i64 n, .slice A ll cap, .int .i64 ((wordX (hd us).text (hd us).pos).pos : Int)] := rfl
      rw [e5]
      clear hX4 hB4 hC hb3 e5
      generalize ((wordX (hd us).text (hd us).pos).pos : Int) = p at *
      generalize (⟨(wordX (hd us).text (hd us).pos).op.toArray⟩ : ByteArray) = o at *
      go_wp2
      obtain ⟨d0, d1, d2, d3, d4⟩ := (HB4.out.set5 (.string o) (.string nm) (.int .i64 n) (.slice A ll cap) (.int .i64 p)).cells
      rw [HI1.out]
      refine bodyPost_ret (v := .tuple #[.agg #[.string o, .string nm, .int .i64 n, .slice A ll cap, .int .i64 p], .nilIface]) (by simp [results, Tryz.results184, go_sem, d0, d1, d2, d3, d4]) rfl ⟨o, nm, n, A, ll, cap, p, rfl, ?_, ?_, ?_⟩
      · exact (HC4.out.far5 (.inl (by omega)) _ _ _ _ _).mono (by omega) (by simp)
      · exact HX4.out.set5 HB4.out (by omega) _ _ _ _ _
      · exact HF4.out.set5 (Nat.le_refl _) _ _ _ _ _
    · have HN := Lib.hid (HX2.out.name_no h1)
      have HI1 := Lib.hid h1
      clear h1
      go_wp2_with fail
      with_reducible refine (HN.out).mono ?_
      rintro e W2 ⟨b, rfl, hbb, hA, hb2⟩
      have hX := HX2.out.below hb2
      have HX3 := Lib.hid hX
      have HB3 := Lib.hid (HB2.out.below hb2)
      have HF3 := Lib.hid (HF2.out.onB HF2.out.size hb2)
      clear hb2 c0 hA hbb
      obtain ⟨c0, _, _⟩ := hX.cells
      have hxw2 := hX.ltx
      clear hX
      by_cases h2 : (hd us).kind = 2
      · have HI2 := Lib.hid (show atomX d us = .ok (.leaf opNum [] (valOf (hd us).text) (hd us).pos) us.tail by simp [atomX, HI.out, h2])
        have HN2 := Lib.hid (HX3.out.number_yes h2)
        clear h2
        go_wp2_with fail
        with_reducible refine (HN2.out).mono ?_
        rintro e w3 ⟨rfl, hX3, hF3⟩
        have hs2 := HB3.out.lt
        have hB4 := HB3.out.fr hF3 (by omega)
        have hs3 := hB4.lt
        obtain ⟨b0, b1, b2, b3, b4⟩ := hB4.cells
        obtain ⟨z0, z1, z2, z3, z4⟩ := hB4.frozen
        have HX4 := Lib.hid hX3
        have HB4 := Lib.hid hB4
        have HF4 := Lib.hid (HF3.out.on HF3.out.size hF3)
        clear hX3 hF3 hB4
        go_wp2
        obtain ⟨d0, d1, d2, d3, d4⟩ := (HB4.out.set5 (.string ⟨#[110, 117, 109]⟩) (.string ⟨#[]⟩) (.int .i64 (valOf (hd us).text : Int)) (.slice none 0 0) (.int .i64 ((hd us).pos : Int))).cells
        rw [HI2.out]
        refine bodyPost_ret (v := .tuple #[.agg #[.string ⟨#[110, 117, 109]⟩, .string ⟨#[]⟩, .int .i64 (valOf (hd us).text : Int), .slice none 0 0, .int .i64 ((hd us).pos : Int)], .nilIface]) (by simp [results, Tryz.results184, go_sem, d0, d1, d2, d3, d4]) rfl ⟨_, _, _, _, _, _, _, rfl, ?_, ?_, ?_⟩
        · exact rfl
        · exact HX4.out.set5 HB4.out (by omega) _ _ _ _ _
        · exact HF4.out.set5 (Nat.le_refl _) _ _ _ _ _
      · have HI2 := Lib.hid (show atomX d us = .er 20 (hd us).pos by simp [atomX, HI.out, HI1.out, h2])
        have HN2 := Lib.hid (HX3.out.number_no h2)
        clear h2
        go_wp2_with fail
        with_reducible refine (HN2.out).mono ?_
        rintro e w3 ⟨b', rfl, hbb, hA, hb3⟩
        have hs2 := HB3.out.lt
        have hB4 := HB3.out.below hb3
        have hs3 := hB4.lt
        obtain ⟨b0, b1, b2, b3, b4⟩ := hB4.cells
        obtain ⟨z0, z1, z2, z3, z4⟩ := hB4.frozen
        have HB4 := Lib.hid hB4
        have HA := Lib.hid hA
        have HF4 := Lib.hid (HF3.out.onB HF3.out.size hb3)
        clear hb3 hA hB4
        go_wp2
        obtain ⟨d0, d1, d2, d3, d4⟩ := (HB4.out.set5 (.string ⟨#[]⟩) (.string ⟨#[]⟩) (.int .i64 0) (.slice none 0 0) (.int .i64 0)).cells
        rw [HI2.out]
        refine bodyPost_ret (v := .tuple #[.agg #[.string ⟨#[]⟩, .string ⟨#[]⟩, .int .i64 0, .slice none 0 0, .int .i64 0], .iface 101 (.pointer (some ⟨b', 0, none⟩))]) (by simp [results, Tryz.results184, go_sem, d0, d1, d2, d3, d4]) rfl ⟨b', rfl, by omega, ?_, ?_⟩
        · exact HA.out.far5 (by omega) _ _ _ _ _
        · exact HF4.out.set5 (Nat.le_refl _) _ _ _ _ _
theorem un_hc {w : World} {b0 b1 : Nat} {a : Ex} {op : List UInt8} {q : Nat} {o nm : ByteArray} {n p : Int} {A : Option Addr} {ll cap g : Nat} (ha : HC w 57 b0 b1 a (exC o nm n A ll cap p)) (hg : b0 ≤ g) (hg1 : g < b1)
    (hw : w.heap[g]? = some (.cells #[.string o, .string nm, .int .i64 n, .slice A ll cap, .int .i64 p] 57 (0, 0))) : HC w 57 b0 b1 (.un op a q) (exC ⟨op.toArray⟩ ⟨#[]⟩ 0 (some ⟨g, 0, none⟩) 1 1 (q : Int)) := by
  refine ⟨g, 1, _, rfl, ⟨⟨hg, hg1⟩, _, hw, ?_⟩, ha⟩
  intro j u hu
  simpa [exC] using hu
set_option maxHeartbeats 1000000 in
theorem prefixed_neg {xb rb lv : Nat} {us : List Tok} {F : List Tok → PR} (hD : DC 178 F lv) (w : World) (h : XR w xb rb us lv) (h0 : (hd us).kind ≠ 0) (op : List UInt8) : Calls Tryz.prog 179 #[.pointer (some ⟨xb, 0, none⟩), .string ⟨op.toArray⟩, .func (.func 178) #[.pointer (some ⟨xb, 0, none⟩)] #[]] w (PP xb rb lv (preX op (hd us).pos (F us.tail)) w) := by
  have hx := h.ltx
  have hr := h.ltr
  have hf2 := field2
  have HD := Lib.hid hD
  have HX := Lib.hid h
  have H0 := Lib.hid h0
  obtain ⟨c0, _, _⟩ := h.cells
  clear h hD h0
  go_enter Tryz.func179, Tryz.ntmps179
  go_wp2_with fail
  refine calls_gen (P := fun W => XR W xb rb us lv ∧ Box W w.heap.size (.string ⟨#[]⟩) (.string ⟨#[]⟩) (.int .i64 0) (.slice none 0 0) (.int .i64 0) ∧ Fr w.heap.size rb w W) ⟨HX.out.alloc _, Box.new _ _ _ _ _ _, (Fr.refl _ _ _).alloc (Nat.le_refl _) _⟩ ?_
  rintro W0 ⟨hX0, hB0, hF0⟩
  refine (hX0.take H0.out).mono ?_
  rintro e W ⟨rfl, hX1, hF1⟩
  have hs0 := hB0.lt
  have HX1 := Lib.hid hX1
  have HB1 := Lib.hid (hB0.fr hF1 (by omega))
  have HF1 := Lib.hid (hF0.on hF0.size hF1)
  clear hX0 hB0 hF0 hX1 hF1 c0
  go_wp2_with fail
  refine (HD.out xb rb W us.tail HX1.out).mono ?_
  intro e w1 hp
  have hB := HB1.out
  have hF := HF1.out
  have hs := hB.lt
  cases hres : F us.tail with
  | er c q =>
    rw [hres] at hp
    obtain ⟨b, rfl, hbb, hA, hF1⟩ := hp
    have hB1 := hB.fr hF1 (by omega)
    obtain ⟨b0, b1, b2, b3, b4⟩ := hB1.cells
    obtain ⟨z0, z1, z2, z3, z4⟩ := hB1.frozen
    have hs1 := hB1.lt
    have HB2 := Lib.hid hB1
    have HA := Lib.hid hA
    have HF2 := Lib.hid (hF.on hF.size hF1)
    have HR := Lib.hid (show preX op (hd us).pos (F us.tail) = .er c q by rw [hres]; rfl)
    clear hB1 hA hF hF1 hB hres
    go_wp2
    obtain ⟨d0, d1, d2, d3, d4⟩ := ((HB2.out.set5 (.string ⟨#[]⟩) (.string ⟨#[]⟩) (.int .i64 0) (.slice none 0 0) (.int .i64 0)).alloc (.cells #[.string ⟨#[]⟩, .string ⟨#[]⟩, .int .i64 0, .slice none 0 0, .int .i64 0] 57)).cells
    rw [HR.out]
    refine bodyPost_ret (v := .tuple #[.agg #[.string ⟨#[]⟩, .string ⟨#[]⟩, .int .i64 0, .slice none 0 0, .int .i64 0], .iface 101 (.pointer (some ⟨b, 0, none⟩))]) (by simp [results, Tryz.results179, go_sem, d0, d1, d2, d3, d4]) rfl ⟨b, rfl, by omega, ?_, ?_⟩
    · exact (HA.out.far5 (by omega) _ _ _ _ _).alloc _
    · exact (HF2.out.set5 (Nat.le_refl _) _ _ _ _ _).alloc (by simp; omega) _
  | ok x r =>
    rw [hres] at hp
    obtain ⟨o, nm, n, A, ll, cap, p, rfl, hC, hX1, hF1⟩ := hp
    have hB1 := hB.fr hF1 (by omega)
    obtain ⟨b0, b1, b2, b3, b4⟩ := hB1.cells
    obtain ⟨z0, z1, z2, z3, z4⟩ := hB1.frozen
    have hs1 := hB1.lt
    have HB2 := Lib.hid hB1
    have HC2 := Lib.hid hC
    have HX2 := Lib.hid hX1
    have HF2 := Lib.hid (hF.on hF.size hF1)
    have HR := Lib.hid (show preX op (hd us).pos (F us.tail) = .ok (.un op x (hd us).pos) r by rw [hres]; rfl)
    clear hB1 hC hX1 hF hF1 hB hres
    go_wp2
    obtain ⟨d0, d1, d2, d3, d4⟩ := (((HB2.out.set5 (.string ⟨op.toArray⟩) (.string ⟨#[]⟩) (.int .i64 0) (.slice (some ⟨w1.heap.size + 1, 0, none⟩) 1 1) (.int .i64 ((hd us).pos : Int))).alloc (.cells #[.string o, .string nm, .int .i64 n, .slice A ll cap, .int .i64 p] 57)).alloc (.cells #[.string o, .string nm, .int .i64 n, .slice A ll cap, .int .i64 p] 57)).cells
    rw [HR.out]
    refine bodyPost_ret (v := .tuple #[.agg #[.string ⟨op.toArray⟩, .string ⟨#[]⟩, .int .i64 0, .slice (some ⟨w1.heap.size + 1, 0, none⟩) 1 1, .int .i64 ((hd us).pos : Int)], .nilIface]) (by simp [results, Tryz.results179, go_sem, d0, d1, d2, d3, d4]) rfl ⟨_, _, _, _, _, _, _, rfl, ?_, ?_, ?_⟩
    · refine un_hc (o := o) (nm := nm) (n := n) (A := A) (ll := ll) (cap := cap) (p := p) ?_ (by omega) (by simp) ?_
      · exact (((HC2.out.far5 (.inl (by omega)) _ _ _ _ _).alloc _).alloc _).mono (by omega) (by simp; omega)
      · exact heap_new_at (by simp) _
    · exact ((HX2.out.set5 HB2.out (by omega) _ _ _ _ _).alloc _).alloc _
    · exact ((HF2.out.set5 (Nat.le_refl _) _ _ _ _ _).alloc (by simp; omega) _).alloc (by simp; omega) _
set_option maxHeartbeats 1000000 in
theorem prefixed_minus {xb rb lv : Nat} {us : List Tok} {F : List Tok → PR} (hD : DC 183 F lv) (w : World) (h : XR w xb rb us lv) (h0 : (hd us).kind ≠ 0) (op : List UInt8) : Calls Tryz.prog 179 #[.pointer (some ⟨xb, 0, none⟩), .string ⟨op.toArray⟩, .func (.func 183) #[.pointer (some ⟨xb, 0, none⟩)] #[]] w (PP xb rb lv (preX op (hd us).pos (F us.tail)) w) := by
  have hx := h.ltx
  have hr := h.ltr
  have hf2 := field2
  have HD := Lib.hid hD
  have HX := Lib.hid h
  have H0 := Lib.hid h0
  obtain ⟨c0, _, _⟩ := h.cells
  clear h hD h0
  go_enter Tryz.func179, Tryz.ntmps179
  go_wp2_with fail
  refine calls_gen (P := fun W => XR W xb rb us lv ∧ Box W w.heap.size (.string ⟨#[]⟩) (.string ⟨#[]⟩) (.int .i64 0) (.slice none 0 0) (.int .i64 0) ∧ Fr w.heap.size rb w W) ⟨HX.out.alloc _, Box.new _ _ _ _ _ _, (Fr.refl _ _ _).alloc (Nat.le_refl _) _⟩ ?_
  rintro W0 ⟨hX0, hB0, hF0⟩
  refine (hX0.take H0.out).mono ?_
  rintro e W ⟨rfl, hX1, hF1⟩
  have hs0 := hB0.lt
  have HX1 := Lib.hid hX1
  have HB1 := Lib.hid (hB0.fr hF1 (by omega))
  have HF1 := Lib.hid (hF0.on hF0.size hF1)
  clear hX0 hB0 hF0 hX1 hF1 c0
  go_wp2_with fail
  refine (HD.out xb rb W us.tail HX1.out).mono ?_
  intro e w1 hp
  have hB := HB1.out
  have hF := HF1.out
  have hs := hB.lt
  cases hres : F us.tail with
  | er c q =>
    rw [hres] at hp
    obtain ⟨b, rfl, hbb, hA, hF1⟩ := hp
    have hB1 := hB.fr hF1 (by omega)
    obtain ⟨b0, b1, b2, b3, b4⟩ := hB1.cells
    obtain ⟨z0, z1, z2, z3, z4⟩ := hB1.frozen
    have hs1 := hB1.lt
    have HB2 := Lib.hid hB1
    have HA := Lib.hid hA
    have HF2 := Lib.hid (hF.on hF.size hF1)
    have HR := Lib.hid (show preX op (hd us).pos (F us.tail) = .er c q by rw [hres]; rfl)
    clear hB1 hA hF hF1 hB hres
    go_wp2
    obtain ⟨d0, d1, d2, d3, d4⟩ := ((HB2.out.set5 (.string ⟨#[]⟩) (.string ⟨#[]⟩) (.int .i64 0) (.slice none 0 0) (.int .i64 0)).alloc (.cells #[.string ⟨#[]⟩, .string ⟨#[]⟩, .int .i64 0, .slice none 0 0, .int .i64 0] 57)).cells
    rw [HR.out]
    refine bodyPost_ret (v := .tuple #[.agg #[.string ⟨#[]⟩, .string ⟨#[]⟩, .int .i64 0, .slice none 0 0, .int .i64 0], .iface 101 (.pointer (some ⟨b, 0, none⟩))]) (by simp [results, Tryz.results179, go_sem, d0, d1, d2, d3, d4]) rfl ⟨b, rfl, by omega, ?_, ?_⟩
    · exact (HA.out.far5 (by omega) _ _ _ _ _).alloc _
    · exact (HF2.out.set5 (Nat.le_refl _) _ _ _ _ _).alloc (by simp; omega) _
  | ok x r =>
    rw [hres] at hp
    obtain ⟨o, nm, n, A, ll, cap, p, rfl, hC, hX1, hF1⟩ := hp
    have hB1 := hB.fr hF1 (by omega)
    obtain ⟨b0, b1, b2, b3, b4⟩ := hB1.cells
    obtain ⟨z0, z1, z2, z3, z4⟩ := hB1.frozen
    have hs1 := hB1.lt
    have HB2 := Lib.hid hB1
    have HC2 := Lib.hid hC
    have HX2 := Lib.hid hX1
    have HF2 := Lib.hid (hF.on hF.size hF1)
    have HR := Lib.hid (show preX op (hd us).pos (F us.tail) = .ok (.un op x (hd us).pos) r by rw [hres]; rfl)
    clear hB1 hC hX1 hF hF1 hB hres
    go_wp2
    obtain ⟨d0, d1, d2, d3, d4⟩ := (((HB2.out.set5 (.string ⟨op.toArray⟩) (.string ⟨#[]⟩) (.int .i64 0) (.slice (some ⟨w1.heap.size + 1, 0, none⟩) 1 1) (.int .i64 ((hd us).pos : Int))).alloc (.cells #[.string o, .string nm, .int .i64 n, .slice A ll cap, .int .i64 p] 57)).alloc (.cells #[.string o, .string nm, .int .i64 n, .slice A ll cap, .int .i64 p] 57)).cells
    rw [HR.out]
    refine bodyPost_ret (v := .tuple #[.agg #[.string ⟨op.toArray⟩, .string ⟨#[]⟩, .int .i64 0, .slice (some ⟨w1.heap.size + 1, 0, none⟩) 1 1, .int .i64 ((hd us).pos : Int)], .nilIface]) (by simp [results, Tryz.results179, go_sem, d0, d1, d2, d3, d4]) rfl ⟨_, _, _, _, _, _, _, rfl, ?_, ?_, ?_⟩
    · refine un_hc (o := o) (nm := nm) (n := n) (A := A) (ll := ll) (cap := cap) (p := p) ?_ (by omega) (by simp) ?_
      · exact (((HC2.out.far5 (.inl (by omega)) _ _ _ _ _).alloc _).alloc _).mono (by omega) (by simp; omega)
      · exact heap_new_at (by simp) _
    · exact ((HX2.out.set5 HB2.out (by omega) _ _ _ _ _).alloc _).alloc _
    · exact ((HF2.out.set5 (Nat.le_refl _) _ _ _ _ _).alloc (by simp; omega) _).alloc (by simp; omega) _
set_option maxHeartbeats 1000000 in
theorem minus_rc {d : Dp} {lv : Nat} (hD : DC 183 d.m lv) (hA : RC 184 (atomX d) lv) : RC 183 (minusX d) lv := by
  intro xb rb w us h
  have hx := h.ltx
  have hr := h.ltr
  have HD := Lib.hid hD
  have HO := Lib.hid hA
  have HX := Lib.hid h
  obtain ⟨c0, _, _⟩ := h.cells
  clear h hD hA
  by_cases hi : isT (hd us) [45] = true
  · have HI := Lib.hid hi
    have HRR := Lib.hid (show minusX d us = preX opNeg (hd us).pos (d.m us.tail) by simp [minusX, hi])
    clear hi
    go_enter Tryz.func183, Tryz.ntmps183
    go_wp2_with fail
    refine calls_gen (P := fun W => XR W xb rb us lv ∧ Box W w.heap.size (.string ⟨#[]⟩) (.string ⟨#[]⟩) (.int .i64 0) (.slice none 0 0) (.int .i64 0) ∧ Fr w.heap.size rb w W) ⟨HX.out.alloc _, Box.new _ _ _ _ _ _, (Fr.refl _ _ _).alloc (Nat.le_refl _) _⟩ ?_
    rintro W0 ⟨hX0, hB0, hF0⟩
    have hq := hX0.is_ ⟨#[45]⟩
    have hq2 : isT (hd us) (⟨#[45]⟩ : ByteArray).data.toList = true := HI.out
    rw [hq2] at hq
    refine hq.mono ?_
    rintro e W ⟨rfl, hb⟩
    have HX1 := Lib.hid (hX0.below hb)
    have HB1 := Lib.hid (hB0.below hb)
    have HF1 := Lib.hid (hF0.onB hF0.size hb)
    clear hX0 hB0 hF0 hb c0 hq hq2
    go_wp2_with fail
    refine (prefixed_minus HD.out W HX1.out (isT_kind HI.out) opNeg).mono ?_
    intro e w1 hp
    have hB := HB1.out
    have hF := HF1.out
    have hRR := HRR.out
    clear HRR
    have hs := hB.lt
    have HRR := Lib.hid hRR
    clear hRR
    cases hres : preX opNeg (hd us).pos (d.m us.tail) with
    | er c q =>
      rw [hres] at hp
      obtain ⟨b, rfl, hbb, hA, hF1⟩ := hp
      have hB1 := hB.fr hF1 (by omega)
      obtain ⟨b0, b1, b2, b3, b4⟩ := hB1.cells
      obtain ⟨z0, z1, z2, z3, z4⟩ := hB1.frozen
      have hs1 := hB1.lt
      have HB1 := Lib.hid hB1
      have HA := Lib.hid hA
      have HF1 := Lib.hid (hF.on hF.size hF1)
      have HR := Lib.hid (HRR.out.trans hres)
      clear hB1 hA hF hF1 hB hres
      go_wp2
      obtain ⟨d0, d1, d2, d3, d4⟩ := (HB1.out.set5 (.string ⟨#[]⟩) (.string ⟨#[]⟩) (.int .i64 0) (.slice none 0 0) (.int .i64 0)).cells
      rw [HR.out]
      refine bodyPost_ret (v := .tuple #[.agg #[.string ⟨#[]⟩, .string ⟨#[]⟩, .int .i64 0, .slice none 0 0, .int .i64 0], .iface 101 (.pointer (some ⟨b, 0, none⟩))]) (by simp [results, Tryz.results183, go_sem, d0, d1, d2, d3, d4]) rfl ⟨b, rfl, by omega, ?_, ?_⟩
      · exact HA.out.far5 (by omega) _ _ _ _ _
      · exact HF1.out.set5 (Nat.le_refl _) _ _ _ _ _
    | ok x r =>
      rw [hres] at hp
      obtain ⟨o, nm, n, A, ll, cap, p, rfl, hC, hX1, hF1⟩ := hp
      have hB1 := hB.fr hF1 (by omega)
      obtain ⟨b0, b1, b2, b3, b4⟩ := hB1.cells
      obtain ⟨z0, z1, z2, z3, z4⟩ := hB1.frozen
      have hs1 := hB1.lt
      have HB1 := Lib.hid hB1
      have HC1 := Lib.hid hC
      have HX1 := Lib.hid hX1
      have HF1 := Lib.hid (hF.on hF.size hF1)
      have HR := Lib.hid (HRR.out.trans hres)
      clear hB1 hC hX1 hF hF1 hB hres
      go_wp2
      obtain ⟨d0, d1, d2, d3, d4⟩ := (HB1.out.set5 (.string o) (.string nm) (.int .i64 n) (.slice A ll cap) (.int .i64 p)).cells
      rw [HR.out]
      refine bodyPost_ret (v := .tuple #[.agg #[.string o, .string nm, .int .i64 n, .slice A ll cap, .int .i64 p], .nilIface]) (by simp [results, Tryz.results183, go_sem, d0, d1, d2, d3, d4]) rfl ⟨o, nm, n, A, ll, cap, p, rfl, ?_, ?_, ?_⟩
      · exact (HC1.out.far5 (.inl (by omega)) _ _ _ _ _).mono (by omega) (by simp)
      · exact HX1.out.set5 HB1.out (by omega) _ _ _ _ _
      · exact HF1.out.set5 (Nat.le_refl _) _ _ _ _ _
  · have hi' : isT (hd us) [45] = false := by simpa using hi
    have HI := Lib.hid hi'
    have HRR := Lib.hid (show minusX d us = atomX d us by simp [minusX, hi'])
    clear hi hi'
    go_enter Tryz.func183, Tryz.ntmps183
    go_wp2_with fail
    refine calls_gen (P := fun W => XR W xb rb us lv ∧ Box W w.heap.size (.string ⟨#[]⟩) (.string ⟨#[]⟩) (.int .i64 0) (.slice none 0 0) (.int .i64 0) ∧ Fr w.heap.size rb w W) ⟨HX.out.alloc _, Box.new _ _ _ _ _ _, (Fr.refl _ _ _).alloc (Nat.le_refl _) _⟩ ?_
    rintro W0 ⟨hX0, hB0, hF0⟩
    have hq := hX0.is_ ⟨#[45]⟩
    have hq2 : isT (hd us) (⟨#[45]⟩ : ByteArray).data.toList = false := HI.out
    rw [hq2] at hq
    refine hq.mono ?_
    rintro e W ⟨rfl, hb⟩
    have HX1 := Lib.hid (hX0.below hb)
    have HB1 := Lib.hid (hB0.below hb)
    have HF1 := Lib.hid (hF0.onB hF0.size hb)
    clear hX0 hB0 hF0 hb c0 hq hq2
    go_wp2_with fail
    refine (HO.out xb rb W us HX1.out).mono ?_
    intro e w1 hp
    have hB := HB1.out
    have hF := HF1.out
    have hRR := HRR.out
    clear HRR
    have hs := hB.lt
    have HRR := Lib.hid hRR
    clear hRR
    cases hres : atomX d us with
    | er c q =>
      rw [hres] at hp
      obtain ⟨b, rfl, hbb, hA, hF1⟩ := hp
      have hB1 := hB.fr hF1 (by omega)
      obtain ⟨b0, b1, b2, b3, b4⟩ := hB1.cells
      obtain ⟨z0, z1, z2, z3, z4⟩ := hB1.frozen
      have hs1 := hB1.lt
      have HB1 := Lib.hid hB1
      have HA := Lib.hid hA
      have HF1 := Lib.hid (hF.on hF.size hF1)
      have HR := Lib.hid (HRR.out.trans hres)
      clear hB1 hA hF hF1 hB hres
      go_wp2
      obtain ⟨d0, d1, d2, d3, d4⟩ := (HB1.out.set5 (.string ⟨#[]⟩) (.string ⟨#[]⟩) (.int .i64 0) (.slice none 0 0) (.int .i64 0)).cells
      rw [HR.out]
      refine bodyPost_ret (v := .tuple #[.agg #[.string ⟨#[]⟩, .string ⟨#[]⟩, .int .i64 0, .slice none 0 0, .int .i64 0], .iface 101 (.pointer (some ⟨b, 0, none⟩))]) (by simp [results, Tryz.results183, go_sem, d0, d1, d2, d3, d4]) rfl ⟨b, rfl, by omega, ?_, ?_⟩
      · exact HA.out.far5 (by omega) _ _ _ _ _
      · exact HF1.out.set5 (Nat.le_refl _) _ _ _ _ _
    | ok x r =>
      rw [hres] at hp
      obtain ⟨o, nm, n, A, ll, cap, p, rfl, hC, hX1, hF1⟩ := hp
      have hB1 := hB.fr hF1 (by omega)
      obtain ⟨b0, b1, b2, b3, b4⟩ := hB1.cells
      obtain ⟨z0, z1, z2, z3, z4⟩ := hB1.frozen
      have hs1 := hB1.lt
      have HB1 := Lib.hid hB1
      have HC1 := Lib.hid hC
      have HX1 := Lib.hid hX1
      have HF1 := Lib.hid (hF.on hF.size hF1)
      have HR := Lib.hid (HRR.out.trans hres)
      clear hB1 hC hX1 hF hF1 hB hres
      go_wp2
      obtain ⟨d0, d1, d2, d3, d4⟩ := (HB1.out.set5 (.string o) (.string nm) (.int .i64 n) (.slice A ll cap) (.int .i64 p)).cells
      rw [HR.out]
      refine bodyPost_ret (v := .tuple #[.agg #[.string o, .string nm, .int .i64 n, .slice A ll cap, .int .i64 p], .nilIface]) (by simp [results, Tryz.results183, go_sem, d0, d1, d2, d3, d4]) rfl ⟨o, nm, n, A, ll, cap, p, rfl, ?_, ?_, ?_⟩
      · exact (HC1.out.far5 (.inl (by omega)) _ _ _ _ _).mono (by omega) (by simp)
      · exact HX1.out.set5 HB1.out (by omega) _ _ _ _ _
      · exact HF1.out.set5 (Nat.le_refl _) _ _ _ _ _
set_option maxHeartbeats 1000000 in
theorem neg_rc {d : Dp} {lv : Nat} (hD : DC 178 d.n lv) (hA : RC 180 (compX d) lv) : RC 178 (negX d) lv := by
  intro xb rb w us h
  have hx := h.ltx
  have hr := h.ltr
  have HD := Lib.hid hD
  have HO := Lib.hid hA
  have HX := Lib.hid h
  obtain ⟨c0, _, _⟩ := h.cells
  clear h hD hA
  by_cases hi : isT (hd us) [33] = true
  · have HI := Lib.hid hi
    have HRR := Lib.hid (show negX d us = preX [33] (hd us).pos (d.n us.tail) by simp [negX, hi])
    clear hi
    go_enter Tryz.func178, Tryz.ntmps178
    go_wp2_with fail
    refine calls_gen (P := fun W => XR W xb rb us lv ∧ Box W w.heap.size (.string ⟨#[]⟩) (.string ⟨#[]⟩) (.int .i64 0) (.slice none 0 0) (.int .i64 0) ∧ Fr w.heap.size rb w W) ⟨HX.out.alloc _, Box.new _ _ _ _ _ _, (Fr.refl _ _ _).alloc (Nat.le_refl _) _⟩ ?_
    rintro W0 ⟨hX0, hB0, hF0⟩
    have hq := hX0.is_ ⟨#[33]⟩
    have hq2 : isT (hd us) (⟨#[33]⟩ : ByteArray).data.toList = true := HI.out
    rw [hq2] at hq
    refine hq.mono ?_
    rintro e W ⟨rfl, hb⟩
    have HX1 := Lib.hid (hX0.below hb)
    have HB1 := Lib.hid (hB0.below hb)
    have HF1 := Lib.hid (hF0.onB hF0.size hb)
    clear hX0 hB0 hF0 hb c0 hq hq2
    go_wp2_with fail
    refine (prefixed_neg HD.out W HX1.out (isT_kind HI.out) [33]).mono ?_
    intro e w1 hp
    have hB := HB1.out
    have hF := HF1.out
    have hRR := HRR.out
    clear HRR
    have hs := hB.lt
    have HRR := Lib.hid hRR
    clear hRR
    cases hres : preX [33] (hd us).pos (d.n us.tail) with
    | er c q =>
      rw [hres] at hp
      obtain ⟨b, rfl, hbb, hA, hF1⟩ := hp
      have hB1 := hB.fr hF1 (by omega)
      obtain ⟨b0, b1, b2, b3, b4⟩ := hB1.cells
      obtain ⟨z0, z1, z2, z3, z4⟩ := hB1.frozen
      have hs1 := hB1.lt
      have HB1 := Lib.hid hB1
      have HA := Lib.hid hA
      have HF1 := Lib.hid (hF.on hF.size hF1)
      have HR := Lib.hid (HRR.out.trans hres)
      clear hB1 hA hF hF1 hB hres
      go_wp2
      obtain ⟨d0, d1, d2, d3, d4⟩ := (HB1.out.set5 (.string ⟨#[]⟩) (.string ⟨#[]⟩) (.int .i64 0) (.slice none 0 0) (.int .i64 0)).cells
      rw [HR.out]
      refine bodyPost_ret (v := .tuple #[.agg #[.string ⟨#[]⟩, .string ⟨#[]⟩, .int .i64 0, .slice none 0 0, .int .i64 0], .iface 101 (.pointer (some ⟨b, 0, none⟩))]) (by simp [results, Tryz.results178, go_sem, d0, d1, d2, d3, d4]) rfl ⟨b, rfl, by omega, ?_, ?_⟩
      · exact HA.out.far5 (by omega) _ _ _ _ _
      · exact HF1.out.set5 (Nat.le_refl _) _ _ _ _ _
    | ok x r =>
      rw [hres] at hp
      obtain ⟨o, nm, n, A, ll, cap, p, rfl, hC, hX1, hF1⟩ := hp
      have hB1 := hB.fr hF1 (by omega)
      obtain ⟨b0, b1, b2, b3, b4⟩ := hB1.cells
      obtain ⟨z0, z1, z2, z3, z4⟩ := hB1.frozen
      have hs1 := hB1.lt
      have HB1 := Lib.hid hB1
      have HC1 := Lib.hid hC
      have HX1 := Lib.hid hX1
      have HF1 := Lib.hid (hF.on hF.size hF1)
      have HR := Lib.hid (HRR.out.trans hres)
      clear hB1 hC hX1 hF hF1 hB hres
      go_wp2
      obtain ⟨d0, d1, d2, d3, d4⟩ := (HB1.out.set5 (.string o) (.string nm) (.int .i64 n) (.slice A ll cap) (.int .i64 p)).cells
      rw [HR.out]
      refine bodyPost_ret (v := .tuple #[.agg #[.string o, .string nm, .int .i64 n, .slice A ll cap, .int .i64 p], .nilIface]) (by simp [results, Tryz.results178, go_sem, d0, d1, d2, d3, d4]) rfl ⟨o, nm, n, A, ll, cap, p, rfl, ?_, ?_, ?_⟩
      · exact (HC1.out.far5 (.inl (by omega)) _ _ _ _ _).mono (by omega) (by simp)
      · exact HX1.out.set5 HB1.out (by omega) _ _ _ _ _
      · exact HF1.out.set5 (Nat.le_refl _) _ _ _ _ _
  · have hi' : isT (hd us) [33] = false := by simpa using hi
    have HI := Lib.hid hi'
    have HRR := Lib.hid (show negX d us = compX d us by simp [negX, hi'])
    clear hi hi'
    go_enter Tryz.func178, Tryz.ntmps178
    go_wp2_with fail
    refine calls_gen (P := fun W => XR W xb rb us lv ∧ Box W w.heap.size (.string ⟨#[]⟩) (.string ⟨#[]⟩) (.int .i64 0) (.slice none 0 0) (.int .i64 0) ∧ Fr w.heap.size rb w W) ⟨HX.out.alloc _, Box.new _ _ _ _ _ _, (Fr.refl _ _ _).alloc (Nat.le_refl _) _⟩ ?_
    rintro W0 ⟨hX0, hB0, hF0⟩
    have hq := hX0.is_ ⟨#[33]⟩
    have hq2 : isT (hd us) (⟨#[33]⟩ : ByteArray).data.toList = false := HI.out
    rw [hq2] at hq
    refine hq.mono ?_
    rintro e W ⟨rfl, hb⟩
    have HX1 := Lib.hid (hX0.below hb)
    have HB1 := Lib.hid (hB0.below hb)
    have HF1 := Lib.hid (hF0.onB hF0.size hb)
    clear hX0 hB0 hF0 hb c0 hq hq2
    go_wp2_with fail
    refine (HO.out xb rb W us HX1.out).mono ?_
    intro e w1 hp
    have hB := HB1.out
    have hF := HF1.out
    have hRR := HRR.out
    clear HRR
    have hs := hB.lt
    have HRR := Lib.hid hRR
    clear hRR
    cases hres : compX d us with
    | er c q =>
      rw [hres] at hp
      obtain ⟨b, rfl, hbb, hA, hF1⟩ := hp
      have hB1 := hB.fr hF1 (by omega)
      obtain ⟨b0, b1, b2, b3, b4⟩ := hB1.cells
      obtain ⟨z0, z1, z2, z3, z4⟩ := hB1.frozen
      have hs1 := hB1.lt
      have HB1 := Lib.hid hB1
      have HA := Lib.hid hA
      have HF1 := Lib.hid (hF.on hF.size hF1)
      have HR := Lib.hid (HRR.out.trans hres)
      clear hB1 hA hF hF1 hB hres
      go_wp2
      obtain ⟨d0, d1, d2, d3, d4⟩ := (HB1.out.set5 (.string ⟨#[]⟩) (.string ⟨#[]⟩) (.int .i64 0) (.slice none 0 0) (.int .i64 0)).cells
      rw [HR.out]
      refine bodyPost_ret (v := .tuple #[.agg #[.string ⟨#[]⟩, .string ⟨#[]⟩, .int .i64 0, .slice none 0 0, .int .i64 0], .iface 101 (.pointer (some ⟨b, 0, none⟩))]) (by simp [results, Tryz.results178, go_sem, d0, d1, d2, d3, d4]) rfl ⟨b, rfl, by omega, ?_, ?_⟩
      · exact HA.out.far5 (by omega) _ _ _ _ _
      · exact HF1.out.set5 (Nat.le_refl _) _ _ _ _ _
    | ok x r =>
      rw [hres] at hp
      obtain ⟨o, nm, n, A, ll, cap, p, rfl, hC, hX1, hF1⟩ := hp
      have hB1 := hB.fr hF1 (by omega)
      obtain ⟨b0, b1, b2, b3, b4⟩ := hB1.cells
      obtain ⟨z0, z1, z2, z3, z4⟩ := hB1.frozen
      have hs1 := hB1.lt
      have HB1 := Lib.hid hB1
      have HC1 := Lib.hid hC
      have HX1 := Lib.hid hX1
      have HF1 := Lib.hid (hF.on hF.size hF1)
      have HR := Lib.hid (HRR.out.trans hres)
      clear hB1 hC hX1 hF hF1 hB hres
      go_wp2
      obtain ⟨d0, d1, d2, d3, d4⟩ := (HB1.out.set5 (.string o) (.string nm) (.int .i64 n) (.slice A ll cap) (.int .i64 p)).cells
      rw [HR.out]
      refine bodyPost_ret (v := .tuple #[.agg #[.string o, .string nm, .int .i64 n, .slice A ll cap, .int .i64 p], .nilIface]) (by simp [results, Tryz.results178, go_sem, d0, d1, d2, d3, d4]) rfl ⟨o, nm, n, A, ll, cap, p, rfl, ?_, ?_, ?_⟩
      · exact (HC1.out.far5 (.inl (by omega)) _ _ _ _ _).mono (by omega) (by simp)
      · exact HX1.out.set5 HB1.out (by omega) _ _ _ _ _
      · exact HF1.out.set5 (Nat.le_refl _) _ _ _ _ _
end Go.Proofs.YtodijgndbjfbgaaGreatDoor
