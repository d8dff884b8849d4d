/-
  The document's implications: walked.
-/
import Derived.Test.YtddeplbgihcdkaaGreatDoorD8
namespace Go.Proofs.YtddeplbgihcdkaaGreatDoor
open Go.RowKit Go.Sort

theorem lift_er {F : List Tok → PR} {us : List Tok} {c q : Nat} (h : F us = .er c q) : lift F (.good us) = (none, .bad c q) := by show exprP (F us) = _; rw [h]; rfl
theorem lift_ok {F : List Tok → PR} {us r : List Tok} {x : Ex} (h : F us = .ok x r) : lift F (.good us) = (some x, .good r) := by show exprP (F us) = _; rw [h]; rfl
theorem lift_join {op : List UInt8} {a : Ex} {F : List Tok → PR} {r : List Tok} : exprP (joinX op a (F r)) = ((lift F (.good r)).1.map (fun b => Ex.bin op a b a.pos), (lift F (.good r)).2) := by
  show exprP (joinX op a (F r)) = ((exprP (F r)).1.map (fun b => Ex.bin op a b a.pos), (exprP (F r)).2)
  cases F r <;> rfl
set_option maxHeartbeats 2000000 in
set_option maxRecDepth 100000 in
theorem rimply_main {D lev l : Nat} (hlev : lev ≤ D) (hC : RCK 0 (disjX (dp l)) D lev) (hI : RCD 127 (dp l).i D (lev + 1)) (w : World) (pb : Nat) (us : List Tok) (z : Int) (hz : z = (lev : Int)) (h : DS w pb D (.good us)) :
    Calls Tryz.prog 127 #[.pointer (some ⟨pb, 0, none⟩), .int .i64 z] w (DP pb D (lift (implX (dp l)) (.good us)) w) := by
  have hm := DV.start h
  have g1 : decide ((D : Int) < z) = false := by simp; omega
  have hz1 : z + 1 = ((lev + 1 : Nat) : Int) := by omega
  have hz2 : 0 ≤ z := by omega
  have hz3 : z ≤ 64 := by have := DR.dep h; omega
  obtain ⟨y2, y3, _⟩ := h.cells
  replace y3 : w.cell? ⟨pb, 3, none⟩ = some (.int .i64 ((0 : Nat) : Int)) := y3
  have hl := h.lt
  have M := Lib.hid hm
  have H1 := Lib.hid (hC _ pb (.good us) 0 z rfl hz hm.d)
  have HI := Lib.hid hI
  have HZ1 := Lib.hid hz1
  clear h hm hC hI hz hz1 hlev
  cases hres : disjX (dp l) us with
  | er c q =>
    rw [lift_er hres] at H1
    have HR := Lib.hid (lift_er (F := implX (dp l)) (us := us) (c := c) (q := q) (by unfold implX; rw [hres]; rfl))
    clear hres
    go_enter Tryz.func127, Tryz.ntmps127
    go_wp2_with fail
    refine (H1.out).mono ?_
    rintro e w1 ⟨o, nm, n, A, ll, cap, p, rfl, hF, hD, hx⟩
    have hc0 : c ≠ 0 := hD.1
    have M1 := Lib.hid (M.out.step hF hD)
    have g2 : ((c : Int) == 0) = false := by rw [beq_eq_false_iff_ne]; omega
    obtain ⟨x2, x3, _⟩ := M1.out.cells
    replace x3 : w1.cell? ⟨pb, 3, none⟩ = some (.int .i64 (c : Int)) := x3
    have hl1 := M1.out.d.lt
    obtain ⟨b0, b1, b2, b3, b4⟩ := M1.out.z.cells
    have z0 := M1.out.z.frozen 0
    have z1 := M1.out.z.frozen 1
    have z2 := M1.out.z.frozen 2
    have z3 := M1.out.z.frozen 3
    have z4 := M1.out.z.frozen 4
    have hbl := M1.out.z.lt
    clear hF hD hx H1 M HI hc0
    go_wp2
    obtain ⟨d0, d1, d2, d3, d4⟩ := (M1.out.ucells (x0 := .string o) (x1 := .string nm) (x2 := .int .i64 n) (x3 := .slice A ll cap) (x4 := .int .i64 p) ((Below.refl _ _).alloc (by simp) (.cells #[.string o, .string nm, .int .i64 n, .slice A ll cap, .int .i64 p] 70))).cells
    rw [HR.out]
    refine bodyPost_ret (v := .agg #[.string o, .string nm, .int .i64 n, .slice A ll cap, .int .i64 p]) (by simp [results, Tryz.results127, go_sem, d0, d1, d2, d3, d4]) rfl ?_
    exact M1.out.fin (res := (none, .bad c q)) rfl ((Below.refl _ _).alloc (by simp) _) (fun x hx => by cases hx)
  | ok a r =>
    rw [lift_ok hres] at H1
    have HR0 := Lib.hid hres
    clear hres
    go_enter Tryz.func127, Tryz.ntmps127
    go_wp2_with fail
    refine (H1.out).mono ?_
    rintro e w1 ⟨o, nm, n, A, ll, cap, p, rfl, hF, hD, hx⟩
    have M1 := Lib.hid ((M.out.step hF hD).alloc (.cells #[.string o, .string nm, .int .i64 n, .slice A ll cap, .int .i64 p] 70))
    have hs1 : w.heap.size + 1 ≤ w1.heap.size := by have := hF.size; simp at this; omega
    have E1 := Lib.hid (EX.ofDP (lo := w.heap.size + 1) (res := (some a, St.good r)) (by simp) hx)
    have hlz := M.out.l
    have hl1 := (M.out.step hF hD).d.lt
    obtain ⟨x2, x3, _⟩ := (M.out.step hF hD).cells
    replace x3 : w1.cell? ⟨pb, 3, none⟩ = some (.int .i64 ((0 : Nat) : Int)) := x3
    clear hF hD hx H1 M
    go_wp2_with fail
    refine calls_gen (P := fun W => DV w W pb D (.good r) ∧ EX W (w.heap.size + 1) w1.heap.size ⟨o, nm, n, A, ll, cap, p⟩ (some a)) ⟨M1.out, E1.out⟩ ?_
    rintro W ⟨hM, hE⟩
    refine (ris_any hM.d ⟨#[61, 62]⟩).mono ?_
    rintro e w2 ⟨rfl, hb2⟩
    have M2 := Lib.hid (hM.below hb2)
    have E2 := Lib.hid (hE.below hb2)
    clear hM hE hb2 M1 E1 x2 x3 hl1
    cases hi : isT (hd r) [61, 62] with
    | false =>
      have HR := Lib.hid (lift_ok (F := implX (dp l)) (us := us) (x := a) (r := r) (by unfold implX; rw [HR0.out, implG, if_neg (by rw [hi]; simp)]))
      obtain ⟨e0, e1, e2, e3, e4⟩ := E2.out.bx.cells
      have hel := E2.out.bx.lt
      obtain ⟨b0, b1, b2, b3, b4⟩ := M2.out.z.cells
      have z0 := M2.out.z.frozen 0
      have z1 := M2.out.z.frozen 1
      have z2 := M2.out.z.frozen 2
      have z3 := M2.out.z.frozen 3
      have z4 := M2.out.z.frozen 4
      have hbl := M2.out.z.lt
      clear hi HR0 HI
      go_wp2
      obtain ⟨d0, d1, d2, d3, d4⟩ := (M2.out.zcells (.string o) (.string nm) (.int .i64 n) (.slice A ll cap) (.int .i64 p)).cells
      rw [HR.out]
      refine bodyPost_ret (v := .agg #[.string o, .string nm, .int .i64 n, .slice A ll cap, .int .i64 p]) (by simp [results, Tryz.results127, go_sem, d0, d1, d2, d3, d4]) rfl ?_
      exact M2.out.done (res := (some a, .good r)) rfl (fun x hx => by injection hx with hx; subst hx; exact E2.out.hs a rfl)
    | true =>
      have HR := Lib.hid (show lift (implX (dp l)) (.good us) = ((lift (dp l).i (.good r.tail)).1.map (fun b => Ex.bin [61, 62] a b a.pos), (lift (dp l).i (.good r.tail)).2) by
        rw [show lift (implX (dp l)) (.good us) = exprP (implX (dp l) us) from rfl]
        unfold implX
        rw [HR0.out, implG, if_pos hi, lift_join])
      obtain ⟨k, hk1, hk2, hT⟩ := M2.out.tail (isT_kind hi)
      have fk := M2.out.cells.2.2 1
      have hlk := M2.out.d.lt
      have hpne : w1.heap.size ≠ pb := by omega
      have E3 := Lib.hid (E2.out.setCell (p := ⟨pb, 1, none⟩) hpne (by show pb < _; omega) (.int .i64 ((k : Int) + 1)))
      have M3 := Lib.hid hT
      clear hi HR0 hT M2 E2
      go_wp2_with fail
      refine calls_gen (P := fun W => DV w W pb D (.good r.tail) ∧ EX W (w.heap.size + 1) w1.heap.size ⟨o, nm, n, A, ll, cap, p⟩ (some a)) ⟨M3.out, E3.out⟩ ?_
      rintro W2 ⟨hM, hE⟩
      refine (HI.out W2 pb _ (z + 1) HZ1.out hM.d).mono ?_
      rintro e w3 ⟨o3, nm3, n3, A3, ll3, cap3, p3, rfl, hF, hD, hx⟩
      have hsz := hM.f.size
      have hsz3 := hF.size
      have hszz := hM.z.lt
      have M4 := Lib.hid (hM.step hF hD)
      have E4 := Lib.hid (hE.fr hF hpne (by omega))
      have HX := Lib.hid hx
      have HEP := Lib.hid (ex_pos hE)
      obtain ⟨e0, e1, e2, e3, e4⟩ := E4.out.bx.cells
      have hel := E4.out.bx.lt
      obtain ⟨b0, b1, b2, b3, b4⟩ := M4.out.z.cells
      have z0 := M4.out.z.frozen 0
      have z1 := M4.out.z.frozen 1
      have z2 := M4.out.z.frozen 2
      have z3 := M4.out.z.frozen 3
      have z4 := M4.out.z.frozen 4
      have hbl := M4.out.z.lt
      have HZW := Lib.hid (show w.heap.size < W2.heap.size by omega)
      clear hM hE hF hD hx M3 E3 HI hk1 fk
      go_wp2
      obtain ⟨d0, d1, d2, d3, d4⟩ := (M4.out.ucells (x0 := .string ⟨#[61, 62]⟩) (x1 := .string ⟨#[]⟩) (x2 := .int .i64 0) (x3 := .slice (some ⟨w3.heap.size + 1, 0, none⟩) 2 2) (x4 := .int .i64 p) (((Below.refl _ _).alloc (by simp) (.cells #[.string o3, .string nm3, .int .i64 n3, .slice A3 ll3 cap3, .int .i64 p3] 70)).alloc (by simp) (.cells #[.string o, .string nm, .int .i64 n, .slice A ll cap, .int .i64 p, .string o3, .string nm3, .int .i64 n3, .slice A3 ll3 cap3, .int .i64 p3] 70))).cells
      rw [HR.out]
      refine bodyPost_ret (v := .agg #[.string ⟨#[61, 62]⟩, .string ⟨#[]⟩, .int .i64 0, .slice (some ⟨w3.heap.size + 1, 0, none⟩) 2 2, .int .i64 p]) (by simp [results, Tryz.results127, go_sem, d0, d1, d2, d3, d4]) rfl ?_
      refine M4.out.fin (res := ((lift (dp l).i (.good r.tail)).1.map (fun b => Ex.bin [61, 62] a b a.pos), (lift (dp l).i (.good r.tail)).2)) rfl (((Below.refl _ _).alloc (by simp) _).alloc (by simp) _) (fun x hx => ?_)
      obtain ⟨b, hb, rfl⟩ := Option.map_eq_some_iff.1 hx
      have hw1 : w1.heap.size ≠ w.heap.size := by omega
      have E4z := (E4.out.far5 (bz := w.heap.size) hw1 (Nat.lt_succ_self _) (.string ⟨#[61, 62]⟩) (.string ⟨#[]⟩) (.int .i64 0) (.slice (some ⟨w3.heap.size + 1, 0, none⟩) 2 2) (.int .i64 p)).alloc (.cells #[.string o3, .string nm3, .int .i64 n3, .slice A3 ll3 cap3, .int .i64 p3] 70)
      have E5z := EX.newAt (W := (((((w3.setCell ⟨w.heap.size, 0, none⟩ (.string ⟨#[61, 62]⟩)).setCell ⟨w.heap.size, 1, none⟩ (.string ⟨#[]⟩)).setCell ⟨w.heap.size, 2, none⟩ (.int .i64 0)).setCell ⟨w.heap.size, 3, none⟩ (.slice (some ⟨w3.heap.size + 1, 0, none⟩) 2 2)).setCell ⟨w.heap.size, 4, none⟩ (.int .i64 p))) (lo := w.heap.size + 1) (v := ⟨o3, nm3, n3, A3, ll3, cap3, p3⟩) (x := some b) (k := w3.heap.size) (by simp) (fun e he => by
        injection he with he
        subst he
        have hzw := HZW.out
        exact ((HX.out b hb).far5S (b := w.heap.size) (by unfold Rg; omega) _ _ _ _ _).wide (fun j _ hj => by unfold Rg at *; simp; omega))
      exact ex_bin E4z E5z (by simp) (by omega) [61, 62] HEP.out
end Go.Proofs.YtddeplbgihcdkaaGreatDoor
