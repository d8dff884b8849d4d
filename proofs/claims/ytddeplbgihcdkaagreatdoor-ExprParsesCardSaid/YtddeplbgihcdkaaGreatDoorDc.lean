/-
  The document's negations and comparisons: walked.
-/
import Derived.Test.YtddeplbgihcdkaaGreatDoorDb
import Derived.Test.YtddeplbgihcdkaaGreatDoorD1
namespace Go.Proofs.YtddeplbgihcdkaaGreatDoor
open Go.RowKit Go.Sort

theorem lift_pre {op : List UInt8} {q : Nat} {F : List Tok → PR} {r : List Tok} : exprP (preX op q (F r)) = ((lift F (.good r)).1.map (fun b => Ex.un op b q), (lift F (.good r)).2) := by
  show exprP (preX op q (F r)) = ((exprP (F r)).1.map (fun b => Ex.un op b q), (exprP (F r)).2)
  cases F r <;> rfl
theorem six_in (s : ByteArray) (w : World) : Calls Tryz.prog 122 #[.string s, .slice (some ⟨w.heap.size, 0, none⟩) 6 6] (w.alloc (.cells #[.string ⟨#[61]⟩, .string ⟨#[33, 61]⟩, .string ⟨#[60]⟩, .string ⟨#[60, 61]⟩, .string ⟨#[62]⟩, .string ⟨#[62, 61]⟩] 9)) (InP (decide (s.data.toList ∈ rkL 5)) (w.alloc (.cells #[.string ⟨#[61]⟩, .string ⟨#[33, 61]⟩, .string ⟨#[60]⟩, .string ⟨#[60, 61]⟩, .string ⟨#[62]⟩, .string ⟨#[62, 61]⟩] 9))) :=
  rin_any s (rkL 5) w.heap.size 6 _ (heap_alloc_new w _) (by decide)
theorem sg_in {t : Tok} {k : Nat} (hk : k < 9) (h4 : t.kind = 4) : sg k t = decide (t.text ∈ rkL k) := by
  unfold sg
  rw [h4, Bool.eq_iff_iff]
  simp [rk_mem t.text k hk]
theorem sg_no {t : Tok} {k : Nat} (h4 : t.kind ≠ 4) : sg k t = false := by
  unfold sg
  simp [h4]
set_option maxHeartbeats 2000000 in
set_option maxRecDepth 100000 in
theorem rnot_bang {D lev l : Nat} (hlev : lev ≤ D) (hN : RCD 207 (dp l).n D (lev + 1)) (w : World) (pb : Nat) (us : List Tok) (z : Int) (hz : z = (lev : Int)) (h : DS w pb D (.good us)) (hi : isT (hd us) [33] = true) :
    Calls Tryz.prog 207 #[.pointer (some ⟨pb, 0, none⟩), .int .i64 z] w (DP pb D (lift (negX (dp l)) (.good us)) w) := by
  have hm := DV.start h
  have g1 : decide ((D : Int) < z) = false := by simp; omega
  have hz1 : z + 1 = ((lev + 1 : Nat) : Int) := by omega
  have hz2 : 0 ≤ z := by omega
  have hz3 : z ≤ 64 := by have := DR.dep h; omega
  obtain ⟨y2, y3, _⟩ := h.cells
  replace y3 : w.cell? ⟨pb, 3, none⟩ = some (.int .i64 ((0 : Nat) : Int)) := y3
  have hl := h.lt
  have M := Lib.hid hm
  have H1 := Lib.hid (ris_any hm.d ⟨#[33]⟩)
  rw [show isT (hd us) (⟨#[33]⟩ : ByteArray).data.toList = true from hi] at H1
  have HR := Lib.hid (show lift (negX (dp l)) (.good us) = ((lift (dp l).n (.good us.tail)).1.map (fun b => Ex.un [33] b (hd us).pos), (lift (dp l).n (.good us.tail)).2) by
    rw [show lift (negX (dp l)) (.good us) = exprP (negX (dp l) us) from rfl]
    unfold negX
    rw [if_pos hi, lift_pre])
  have HI := Lib.hid hN
  have HZ1 := Lib.hid hz1
  have HK := Lib.hid (isT_kind hi)
  have hf2 := fieldr2
  clear h hm hN hz hz1 hlev hi
  go_enter Tryz.func207, Tryz.ntmps207
  go_wp2_with fail
  refine (H1.out).mono ?_
  rintro e w1 ⟨rfl, hb1⟩
  have M1 := Lib.hid (M.out.below hb1)
  clear hb1 H1 M
  go_wp2_with fail
  refine (rnow_any M1.out.d).mono ?_
  rintro e w2 ⟨rfl, hb2⟩
  have M2 := Lib.hid (M1.out.below hb2)
  clear hb2 M1
  obtain ⟨k, hk1, hk2, hT⟩ := M2.out.tail HK.out
  have fk := M2.out.cells.2.2 1
  have hlk := M2.out.d.lt
  have M3 := Lib.hid hT
  clear hT M2
  go_wp2_with fail
  refine calls_gen (P := fun W => DV w W pb D (.good us.tail)) M3.out ?_
  rintro W2 hM
  refine (HI.out W2 pb _ (z + 1) HZ1.out hM.d).mono ?_
  rintro e w3 ⟨o3, nm3, n3, A3, ll3, cap3, p3, rfl, hF, hD, hx⟩
  have hsz3 := hF.size
  have hszz := hM.z.lt
  have M4 := Lib.hid (hM.step hF hD)
  have HX := Lib.hid hx
  obtain ⟨b0, b1, b2, b3, b4⟩ := M4.out.z.cells
  have z0 := M4.out.z.frozen 0
  have z1 := M4.out.z.frozen 1
  have z2 := M4.out.z.frozen 2
  have z3 := M4.out.z.frozen 3
  have z4 := M4.out.z.frozen 4
  have hbl := M4.out.z.lt
  have HZW := Lib.hid (show w.heap.size < W2.heap.size by omega)
  clear hM hF hD hx M3 HI hk1 fk
  go_wp2
  obtain ⟨d0, d1, d2, d3, d4⟩ := (M4.out.ucells (x0 := .string ⟨#[33]⟩) (x1 := .string ⟨#[]⟩) (x2 := .int .i64 0) (x3 := .slice (some ⟨w3.heap.size + 1, 0, none⟩) 1 1) (x4 := .int .i64 ((hd us).pos : Int)) (((Below.refl _ _).alloc (by simp) (.cells #[.string o3, .string nm3, .int .i64 n3, .slice A3 ll3 cap3, .int .i64 p3] 70)).alloc (by simp) (.cells #[.string o3, .string nm3, .int .i64 n3, .slice A3 ll3 cap3, .int .i64 p3] 70))).cells
  rw [HR.out]
  refine bodyPost_ret (v := .agg #[.string ⟨#[33]⟩, .string ⟨#[]⟩, .int .i64 0, .slice (some ⟨w3.heap.size + 1, 0, none⟩) 1 1, .int .i64 ((hd us).pos : Int)]) (by simp [results, Tryz.results207, go_sem, d0, d1, d2, d3, d4]) rfl ?_
  refine M4.out.fin (res := ((lift (dp l).n (.good us.tail)).1.map (fun b => Ex.un [33] b (hd us).pos), (lift (dp l).n (.good us.tail)).2)) rfl (((Below.refl _ _).alloc (by simp) _).alloc (by simp) _) (fun x hx => ?_)
  obtain ⟨b, hb, rfl⟩ := Option.map_eq_some_iff.1 hx
  have E5z := EX.newAt (W := (((((w3.setCell ⟨w.heap.size, 0, none⟩ (.string ⟨#[33]⟩)).setCell ⟨w.heap.size, 1, none⟩ (.string ⟨#[]⟩)).setCell ⟨w.heap.size, 2, none⟩ (.int .i64 0)).setCell ⟨w.heap.size, 3, none⟩ (.slice (some ⟨w3.heap.size + 1, 0, none⟩) 1 1)).setCell ⟨w.heap.size, 4, none⟩ (.int .i64 ((hd us).pos : Int)))) (lo := w.heap.size + 1) (v := ⟨o3, nm3, n3, A3, ll3, cap3, p3⟩) (x := some b) (k := w3.heap.size) (by simp) (fun e he => by
    injection he with he
    subst he
    have hzw := HZW.out
    exact ((HX.out b hb).far5S (b := w.heap.size) (by unfold Rg; omega) _ _ _ _ _).wide (fun j _ hj => by unfold Rg at *; simp; omega))
  exact ex_un E5z (by simp) (by omega) [33] rfl
set_option maxHeartbeats 2000000 in
set_option maxRecDepth 100000 in
theorem rnot_comp {D lev l : Nat} (hlev : lev ≤ D) (hS : RCK 2 (sumX (dp l)) D lev) (w : World) (pb : Nat) (us : List Tok) (z : Int) (hz : z = (lev : Int)) (h : DS w pb D (.good us)) (hi : isT (hd us) [33] = false) :
    Calls Tryz.prog 207 #[.pointer (some ⟨pb, 0, none⟩), .int .i64 z] w (DP pb D (lift (negX (dp l)) (.good us)) w) := by
  have hm := DV.start h
  have g1 : decide ((D : Int) < z) = false := by simp; omega
  have hz2 : 0 ≤ z := by omega
  have hz3 : z ≤ 64 := by have := DR.dep h; omega
  obtain ⟨y2, y3, _⟩ := h.cells
  replace y3 : w.cell? ⟨pb, 3, none⟩ = some (.int .i64 ((0 : Nat) : Int)) := y3
  have hl := h.lt
  have M := Lib.hid hm
  have H1 := Lib.hid (ris_any hm.d ⟨#[33]⟩)
  rw [show isT (hd us) (⟨#[33]⟩ : ByteArray).data.toList = false from hi] at H1
  have HS := Lib.hid hS
  have HZ := Lib.hid hz
  have hf1 := fieldr1
  have hf0 := fieldr0
  have HL := Lib.hid (show lift (negX (dp l)) (.good us) = lift (compX (dp l)) (.good us) by
    show exprP (negX (dp l) us) = exprP (compX (dp l) us)
    unfold negX
    rw [if_neg (by rw [hi]; simp)])
  rw [HL.out]
  clear h hm hS hz hlev hi HL
  go_enter Tryz.func207, Tryz.ntmps207
  go_wp2_with fail
  refine (H1.out).mono ?_
  rintro e w0 ⟨rfl, hb0⟩
  have M0 := Lib.hid (M.out.below hb0)
  clear hb0 H1 M
  go_wp2_with fail
  refine (HS.out w0 pb (.good us) 2 z rfl HZ.out M0.out.d).mono ?_
  rintro e w1 ⟨o, nm, n, A, ll, cap, p, rfl, hF, hD, hx⟩
  have hzl := M0.out.z.lt
  have hs1 : w.heap.size + 1 ≤ w1.heap.size := by have := hF.size; omega
  cases hres : sumX (dp l) us with
  | er c q =>
    rw [lift_er hres] at hD hx
    have HR := Lib.hid (lift_er (F := compX (dp l)) (us := us) (c := c) (q := q) (by unfold compX; rw [hres]; rfl))
    have hc0 : c ≠ 0 := hD.1
    have M1 := Lib.hid ((M0.out.step hF hD).alloc (.cells #[.string o, .string nm, .int .i64 n, .slice A ll cap, .int .i64 p] 70))
    have EB := Lib.hid (BoxR.new w1 (.string o) (.string nm) (.int .i64 n) (.slice A ll cap) (.int .i64 p))
    have g2 : ((c : Int) == 0) = false := by rw [beq_eq_false_iff_ne]; omega
    clear hres hF hD hx M0 hc0
    go_wp2_with fail
    refine calls_gen (P := fun W => DV w W pb D (.bad c q) ∧ BoxR W w1.heap.size (.string o) (.string nm) (.int .i64 n) (.slice A ll cap) (.int .i64 p)) ⟨M1.out, EB.out⟩ ?_
    rintro W ⟨hM, hE⟩
    obtain ⟨hc, us', hdr⟩ := hM.d
    refine (rnow_any hdr).mono ?_
    rintro e w2 ⟨rfl, hb2⟩
    have M2 := Lib.hid (hM.below hb2)
    obtain ⟨e0, e1, e2, e3, e4⟩ := (hE.below hb2).cells
    have hel := (hE.below hb2).lt
    obtain ⟨x2, x3, _⟩ := M2.out.cells
    replace x3 : w2.cell? ⟨pb, 3, none⟩ = some (.int .i64 (c : Int)) := x3
    have hl2 := M2.out.d.lt
    obtain ⟨b0, b1, b2, b3, b4⟩ := M2.out.z.cells
    have z0 := M2.out.z.frozen 0
    have z1 := M2.out.z.frozen 1
    have z2 := M2.out.z.frozen 2
    have z3 := M2.out.z.frozen 3
    have z4 := M2.out.z.frozen 4
    have hbl := M2.out.z.lt
    clear hM hE hdr hb2 M1 EB hc
    go_wp2
    obtain ⟨d0, d1, d2, d3, d4⟩ := (M2.out.zcells (.string o) (.string nm) (.int .i64 n) (.slice A ll cap) (.int .i64 p)).cells
    rw [HR.out]
    refine bodyPost_ret (v := .agg #[.string o, .string nm, .int .i64 n, .slice A ll cap, .int .i64 p]) (by simp [results, Tryz.results207, go_sem, d0, d1, d2, d3, d4]) rfl ?_
    exact M2.out.done (res := (none, .bad c q)) rfl (fun x hx => by cases hx)
  | ok a r =>
    rw [lift_ok hres] at hD hx
    have HR0 := Lib.hid hres
    have M1 := Lib.hid ((M0.out.step hF hD).alloc (.cells #[.string o, .string nm, .int .i64 n, .slice A ll cap, .int .i64 p] 70))
    have E1 := Lib.hid (EX.ofDP (lo := w.heap.size + 1) (res := (some a, St.good r)) (by omega) hx)
    clear hres hF hD hx M0
    go_wp2_with fail
    refine calls_gen (P := fun W => DV w W pb D (.good r) ∧ EX W (w.heap.size + 1) w1.heap.size ⟨o, nm, n, A, ll, cap, p⟩ (some a)) ⟨M1.out, E1.out⟩ ?_
    rintro W ⟨hM, hE⟩
    refine (rnow_any hM.d).mono ?_
    rintro e w2 ⟨rfl, hb2⟩
    have M2 := Lib.hid (hM.below hb2)
    have E2 := Lib.hid (hE.below hb2)
    clear hM hE hb2 M1 E1
    obtain ⟨x2, x3, _⟩ := M2.out.cells
    replace x3 : w2.cell? ⟨pb, 3, none⟩ = some (.int .i64 ((0 : Nat) : Int)) := x3
    have hl2 := M2.out.d.lt
    go_wp2_with fail
    refine (rnow_any M2.out.d).mono ?_
    rintro e w3 ⟨rfl, hb3⟩
    have M3 := Lib.hid (M2.out.below hb3)
    have E3 := Lib.hid (E2.out.below hb3)
    clear hb3 M2 E2 x2 x3 hl2
    obtain ⟨tb, htb⟩ : ∃ tb : ByteArray, tb = ⟨(hd r).text.toArray⟩ := ⟨_, rfl⟩
    have HTB := Lib.hid (show tb.data.toList = (hd r).text by rw [htb])
    have HTE := Lib.hid htb
    rw [← htb]
    clear htb
    by_cases h4 : (hd r).kind = 4
    · have g4 : (((hd r).kind : Int) == 4) = true := by simp [h4]
      have HSG := Lib.hid (sg_in (t := hd r) (k := 5) (by decide) h4)
      have H5 := Lib.hid (six_in tb w3)
      rw [HTB.out, ← HSG.out] at H5
      have HK := Lib.hid (show (hd r).kind ≠ 0 by omega)
      clear h4
      cases hs : sg 5 (hd r) with
      | false =>
        rw [hs] at H5
        have HR := Lib.hid (lift_ok (F := compX (dp l)) (us := us) (x := a) (r := r) (by unfold compX; rw [HR0.out, compG, if_neg (by rw [hs]; simp)]))
        obtain ⟨e0, e1, e2, e3, e4⟩ := E3.out.bx.cells
        have hel := E3.out.bx.lt
        obtain ⟨b0, b1, b2, b3, b4⟩ := M3.out.z.cells
        have z0 := M3.out.z.frozen 0
        have z1 := M3.out.z.frozen 1
        have z2 := M3.out.z.frozen 2
        have z3 := M3.out.z.frozen 3
        have z4 := M3.out.z.frozen 4
        have hbl := M3.out.z.lt
        clear hs HSG HR0
        go_wp2_with fail
        refine (H5.out).mono ?_
        rintro e w4 ⟨rfl, rfl⟩
        go_wp2
        obtain ⟨d0, d1, d2, d3, d4⟩ := (M3.out.ucells (x0 := .string o) (x1 := .string nm) (x2 := .int .i64 n) (x3 := .slice A ll cap) (x4 := .int .i64 p) ((Below.refl _ _).alloc (by simp) (.cells #[.string ⟨#[61]⟩, .string ⟨#[33, 61]⟩, .string ⟨#[60]⟩, .string ⟨#[60, 61]⟩, .string ⟨#[62]⟩, .string ⟨#[62, 61]⟩] 9))).cells
        rw [HR.out]
        refine bodyPost_ret (v := .agg #[.string o, .string nm, .int .i64 n, .slice A ll cap, .int .i64 p]) (by simp [results, Tryz.results207, go_sem, d0, d1, d2, d3, d4]) rfl ?_
        refine M3.out.fin (res := (some a, .good r)) rfl ((Below.refl _ _).alloc (by simp) _) (fun x hx => ?_)
        injection hx with hx
        subst hx
        exact ((E3.out.far5 (bz := w.heap.size) (by omega) (Nat.lt_succ_self _) (.string o) (.string nm) (.int .i64 n) (.slice A ll cap) (.int .i64 p)).alloc _).hs a rfl
      | true =>
        rw [hs] at H5
        have HR := Lib.hid (show lift (compX (dp l)) (.good us) = ((lift (sumX (dp l)) (.good r.tail)).1.map (fun b => Ex.bin (hd r).text a b a.pos), (lift (sumX (dp l)) (.good r.tail)).2) by
          rw [show lift (compX (dp l)) (.good us) = exprP (compX (dp l) us) from rfl]
          unfold compX
          rw [HR0.out, compG, if_pos hs, lift_join])
        have M4 := Lib.hid (M3.out.alloc (.cells #[.string ⟨#[61]⟩, .string ⟨#[33, 61]⟩, .string ⟨#[60]⟩, .string ⟨#[60, 61]⟩, .string ⟨#[62]⟩, .string ⟨#[62, 61]⟩] 9))
        have E4 := Lib.hid (E3.out.alloc (.cells #[.string ⟨#[61]⟩, .string ⟨#[33, 61]⟩, .string ⟨#[60]⟩, .string ⟨#[60, 61]⟩, .string ⟨#[62]⟩, .string ⟨#[62, 61]⟩] 9))
        clear hs HSG HR0
        go_wp2_with fail
        refine (H5.out).mono ?_
        rintro e w4 ⟨rfl, rfl⟩
        have hpl := M4.out.l
        have hpne : w1.heap.size ≠ pb := by omega
        generalize w3.alloc (.cells #[.string ⟨#[61]⟩, .string ⟨#[33, 61]⟩, .string ⟨#[60]⟩, .string ⟨#[60, 61]⟩, .string ⟨#[62]⟩, .string ⟨#[62, 61]⟩] 9) = W5 at M4 E4 ⊢
        clear M3 E3 H5
        obtain ⟨k, hk1, hk2, hT⟩ := M4.out.tail HK.out
        have fk := M4.out.cells.2.2 1
        have hlk := M4.out.d.lt
        have M5 := Lib.hid hT
        have E5 := Lib.hid (E4.out.setCell (p := ⟨pb, 1, none⟩) hpne (by show pb < _; omega) (.int .i64 ((k : Int) + 1)))
        clear hT M4 E4
        go_wp2_with fail
        refine calls_gen (P := fun W => DV w W pb D (.good r.tail) ∧ EX W (w.heap.size + 1) w1.heap.size ⟨o, nm, n, A, ll, cap, p⟩ (some a)) ⟨M5.out, E5.out⟩ ?_
        rintro W2 ⟨hM, hE⟩
        refine (HS.out W2 pb _ 2 z rfl HZ.out hM.d).mono ?_
        rintro e w6 ⟨o3, nm3, n3, A3, ll3, cap3, p3, rfl, hF, hD, hx⟩
        have hsz3 := hF.size
        have hszz := hM.z.lt
        have M6 := Lib.hid (hM.step hF hD)
        have E6 := Lib.hid (hE.fr hF hpne (by omega))
        have HX := Lib.hid hx
        have HEP := Lib.hid (ex_pos hE)
        obtain ⟨e0, e1, e2, e3, e4⟩ := E6.out.bx.cells
        have hel := E6.out.bx.lt
        obtain ⟨b0, b1, b2, b3, b4⟩ := M6.out.z.cells
        have z0 := M6.out.z.frozen 0
        have z1 := M6.out.z.frozen 1
        have z2 := M6.out.z.frozen 2
        have z3 := M6.out.z.frozen 3
        have z4 := M6.out.z.frozen 4
        have hbl := M6.out.z.lt
        have HZW := Lib.hid (show w.heap.size < W2.heap.size by omega)
        clear hM hE hF hD hx M5 E5 hk1 fk
        go_wp2
        obtain ⟨d0, d1, d2, d3, d4⟩ := (M6.out.ucells (x0 := .string tb) (x1 := .string ⟨#[]⟩) (x2 := .int .i64 0) (x3 := .slice (some ⟨w6.heap.size + 1, 0, none⟩) 2 2) (x4 := .int .i64 p) (((Below.refl _ _).alloc (by simp) (.cells #[.string o3, .string nm3, .int .i64 n3, .slice A3 ll3 cap3, .int .i64 p3] 70)).alloc (by simp) (.cells #[.string o, .string nm, .int .i64 n, .slice A ll cap, .int .i64 p, .string o3, .string nm3, .int .i64 n3, .slice A3 ll3 cap3, .int .i64 p3] 70))).cells
        rw [HR.out]
        refine bodyPost_ret (v := .agg #[.string tb, .string ⟨#[]⟩, .int .i64 0, .slice (some ⟨w6.heap.size + 1, 0, none⟩) 2 2, .int .i64 p]) (by simp [results, Tryz.results207, go_sem, d0, d1, d2, d3, d4]) rfl ?_
        refine M6.out.fin (res := ((lift (sumX (dp l)) (.good r.tail)).1.map (fun b => Ex.bin (hd r).text a b a.pos), (lift (sumX (dp l)) (.good r.tail)).2)) rfl (((Below.refl _ _).alloc (by simp) _).alloc (by simp) _) (fun x hx => ?_)
        obtain ⟨b, hb, rfl⟩ := Option.map_eq_some_iff.1 hx
        have hw1 : w1.heap.size ≠ w.heap.size := by omega
        have E4z := (E6.out.far5 (bz := w.heap.size) hw1 (Nat.lt_succ_self _) (.string tb) (.string ⟨#[]⟩) (.int .i64 0) (.slice (some ⟨w6.heap.size + 1, 0, none⟩) 2 2) (.int .i64 p)).alloc (.cells #[.string o3, .string nm3, .int .i64 n3, .slice A3 ll3 cap3, .int .i64 p3] 70)
        have E5z := EX.newAt (W := (((((w6.setCell ⟨w.heap.size, 0, none⟩ (.string tb)).setCell ⟨w.heap.size, 1, none⟩ (.string ⟨#[]⟩)).setCell ⟨w.heap.size, 2, none⟩ (.int .i64 0)).setCell ⟨w.heap.size, 3, none⟩ (.slice (some ⟨w6.heap.size + 1, 0, none⟩) 2 2)).setCell ⟨w.heap.size, 4, none⟩ (.int .i64 p))) (lo := w.heap.size + 1) (v := ⟨o3, nm3, n3, A3, ll3, cap3, p3⟩) (x := some b) (k := w6.heap.size) (by simp) (fun e he => by
          injection he with he
          subst he
          have hzw := HZW.out
          exact ((HX.out b hb).far5S (b := w.heap.size) (by unfold Rg; omega) _ _ _ _ _).wide (fun j _ hj => by unfold Rg at *; simp; omega))
        have := ex_bin (g := w6.heap.size + 1) E4z E5z (by simp) (by omega) (hd r).text HEP.out
        rw [← HTE.out] at this
        exact this
    · have g4 : (((hd r).kind : Int) == 4) = false := by rw [beq_eq_false_iff_ne]; omega
      have HR := Lib.hid (lift_ok (F := compX (dp l)) (us := us) (x := a) (r := r) (by unfold compX; rw [HR0.out, compG, if_neg (by rw [sg_no h4]; simp)]))
      obtain ⟨e0, e1, e2, e3, e4⟩ := E3.out.bx.cells
      have hel := E3.out.bx.lt
      obtain ⟨b0, b1, b2, b3, b4⟩ := M3.out.z.cells
      have z0 := M3.out.z.frozen 0
      have z1 := M3.out.z.frozen 1
      have z2 := M3.out.z.frozen 2
      have z3 := M3.out.z.frozen 3
      have z4 := M3.out.z.frozen 4
      have hbl := M3.out.z.lt
      clear h4 HR0
      go_wp2
      obtain ⟨d0, d1, d2, d3, d4⟩ := (M3.out.zcells (.string o) (.string nm) (.int .i64 n) (.slice A ll cap) (.int .i64 p)).cells
      rw [HR.out]
      refine bodyPost_ret (v := .agg #[.string o, .string nm, .int .i64 n, .slice A ll cap, .int .i64 p]) (by simp [results, Tryz.results207, go_sem, d0, d1, d2, d3, d4]) rfl ?_
      refine M3.out.done (res := (some a, .good r)) rfl (fun x hx => ?_)
      injection hx with hx
      subst hx
      exact E3.out.hs a rfl
theorem rnot_main {D lev l : Nat} (hlev : lev ≤ D) (hS : RCK 2 (sumX (dp l)) D lev) (hN : RCD 207 (dp l).n D (lev + 1)) (w : World) (pb : Nat) (us : List Tok) (z : Int) (hz : z = (lev : Int)) (h : DS w pb D (.good us)) :
    Calls Tryz.prog 207 #[.pointer (some ⟨pb, 0, none⟩), .int .i64 z] w (DP pb D (lift (negX (dp l)) (.good us)) w) := by
  cases hi : isT (hd us) [33] with
  | true => exact rnot_bang hlev hN w pb us z hz h hi
  | false => exact rnot_comp hlev hS w pb us z hz h hi
end Go.Proofs.YtddeplbgihcdkaaGreatDoor
