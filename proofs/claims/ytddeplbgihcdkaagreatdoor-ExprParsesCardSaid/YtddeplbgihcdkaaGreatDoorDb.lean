/-
  The document's choices: walked.
-/
import Derived.Test.YtddeplbgihcdkaaGreatDoorDa
namespace Go.Proofs.YtddeplbgihcdkaaGreatDoor
open Go.RowKit Go.Sort

theorem lift_condH {d : Dp} {a : Ex} {us : List Tok} : exprP (condH d a (d.c us)) = ((lift d.c (.good us)).1.bind (fun b => (lift d.c ((lift d.c (.good us)).2.want [58])).1.map (fun c => Ex.cond a b c a.pos)), (lift d.c ((lift d.c (.good us)).2.want [58])).2) := by
  have e : lift d.c (.good us) = exprP (d.c us) := rfl
  rw [e]
  cases h : d.c us with
  | er c q => rfl
  | ok b r =>
    show exprP (if isT (hd r) [58] then condE a b (d.c r.tail) else .er 20 (hd r).pos) = ((lift d.c ((St.good r).want [58])).1.map (fun c => Ex.cond a b c a.pos), (lift d.c ((St.good r).want [58])).2)
    by_cases hi : isT (hd r) [58] = true
    · have hw : (St.good r).want [58] = .good r.tail := by unfold St.want; rw [show (St.good r).hd = hd r from rfl, if_pos hi]; rfl
      rw [hw, if_pos hi, show lift d.c (.good r.tail) = exprP (d.c r.tail) from rfl]
      cases d.c r.tail <;> rfl
    · have hw : (St.good r).want [58] = .bad 20 (hd r).pos := by unfold St.want; rw [show (St.good r).hd = hd r from rfl, if_neg hi]; rfl
      rw [hw, if_neg hi]
      rfl
set_option maxHeartbeats 2000000 in
set_option maxRecDepth 100000 in
theorem rcond_main {D lev l : Nat} (hlev : lev ≤ D) (hC : RCD 127 (implX (dp l)) D lev) (hI : RCD 78 (dp l).c D (lev + 1)) (w : World) (pb : Nat) (us : List Tok) (z : Int) (hz : z = (lev : Int)) (h : DS w pb D (.good us)) :
    Calls Tryz.prog 78 #[.pointer (some ⟨pb, 0, none⟩), .int .i64 z] w (DP pb D (lift (condX (dp l)) (.good us)) w) := by
  have hm := DV.start h
  have g1 : decide ((D : Int) < z) = false := by simp; omega
  have hz1 : z + 1 = ((lev + 1 : Nat) : Int) := by omega
  have hz2 : 0 ≤ z := by omega
  have hz3 : z ≤ 64 := by have := DR.dep h; omega
  obtain ⟨y2, y3, _⟩ := h.cells
  replace y3 : w.cell? ⟨pb, 3, none⟩ = some (.int .i64 ((0 : Nat) : Int)) := y3
  have hl := h.lt
  have M := Lib.hid hm
  have H1 := Lib.hid (hC _ pb (.good us) z hz hm.d)
  have HI := Lib.hid hI
  have HZ1 := Lib.hid hz1
  clear h hm hC hI hz hz1 hlev
  cases hres : implX (dp l) us with
  | er c q =>
    rw [lift_er hres] at H1
    have HR := Lib.hid (lift_er (F := condX (dp l)) (us := us) (c := c) (q := q) (by unfold condX; rw [hres]; rfl))
    clear hres
    go_enter Tryz.func78, Tryz.ntmps78
    go_wp2_with fail
    refine (H1.out).mono ?_
    rintro e w1 ⟨o, nm, n, A, ll, cap, p, rfl, hF, hD, hx⟩
    have hc0 : c ≠ 0 := hD.1
    have M1 := Lib.hid (M.out.step hF hD)
    have g2 : ((c : Int) != 0) = true := by rw [bne_iff_ne]; omega
    obtain ⟨x2, x3, _⟩ := M1.out.cells
    replace x3 : w1.cell? ⟨pb, 3, none⟩ = some (.int .i64 (c : Int)) := x3
    have hl1 := M1.out.d.lt
    obtain ⟨b0, b1, b2, b3, b4⟩ := M1.out.z.cells
    have z0 := M1.out.z.frozen 0
    have z1 := M1.out.z.frozen 1
    have z2 := M1.out.z.frozen 2
    have z3 := M1.out.z.frozen 3
    have z4 := M1.out.z.frozen 4
    have hbl := M1.out.z.lt
    clear hF hD hx H1 M HI hc0
    go_wp2
    obtain ⟨d0, d1, d2, d3, d4⟩ := (M1.out.ucells (x0 := .string o) (x1 := .string nm) (x2 := .int .i64 n) (x3 := .slice A ll cap) (x4 := .int .i64 p) ((Below.refl _ _).alloc (by simp) (.cells #[.string o, .string nm, .int .i64 n, .slice A ll cap, .int .i64 p] 70))).cells
    rw [HR.out]
    refine bodyPost_ret (v := .agg #[.string o, .string nm, .int .i64 n, .slice A ll cap, .int .i64 p]) (by simp [results, Tryz.results78, go_sem, d0, d1, d2, d3, d4]) rfl ?_
    exact M1.out.fin (res := (none, .bad c q)) rfl ((Below.refl _ _).alloc (by simp) _) (fun x hx => by cases hx)
  | ok a r =>
    rw [lift_ok hres] at H1
    have HR0 := Lib.hid hres
    clear hres
    go_enter Tryz.func78, Tryz.ntmps78
    go_wp2_with fail
    refine (H1.out).mono ?_
    rintro e w1 ⟨o, nm, n, A, ll, cap, p, rfl, hF, hD, hx⟩
    have M1 := Lib.hid ((M.out.step hF hD).alloc (.cells #[.string o, .string nm, .int .i64 n, .slice A ll cap, .int .i64 p] 70))
    have hs1 : w.heap.size + 1 ≤ w1.heap.size := by have := hF.size; simp at this; omega
    have E1 := Lib.hid (EX.ofDP (lo := w.heap.size + 1) (res := (some a, St.good r)) (by simp) hx)
    have hlz := M.out.l
    have hl1 := (M.out.step hF hD).d.lt
    obtain ⟨x2, x3, _⟩ := (M.out.step hF hD).cells
    replace x3 : w1.cell? ⟨pb, 3, none⟩ = some (.int .i64 ((0 : Nat) : Int)) := x3
    clear hF hD hx H1 M
    go_wp2_with fail
    refine calls_gen (P := fun W => DV w W pb D (.good r) ∧ EX W (w.heap.size + 1) w1.heap.size ⟨o, nm, n, A, ll, cap, p⟩ (some a)) ⟨M1.out, E1.out⟩ ?_
    rintro W ⟨hM, hE⟩
    refine (ris_any hM.d ⟨#[63]⟩).mono ?_
    rintro e w2 ⟨rfl, hb2⟩
    have M2 := Lib.hid (hM.below hb2)
    have E2 := Lib.hid (hE.below hb2)
    clear hM hE hb2 M1 E1 x2 x3 hl1
    cases hi : isT (hd r) [63] with
    | false =>
      have HR := Lib.hid (lift_ok (F := condX (dp l)) (us := us) (x := a) (r := r) (by unfold condX; rw [HR0.out, condG, if_neg (by rw [hi]; simp)]))
      obtain ⟨e0, e1, e2, e3, e4⟩ := E2.out.bx.cells
      have hel := E2.out.bx.lt
      obtain ⟨b0, b1, b2, b3, b4⟩ := M2.out.z.cells
      have z0 := M2.out.z.frozen 0
      have z1 := M2.out.z.frozen 1
      have z2 := M2.out.z.frozen 2
      have z3 := M2.out.z.frozen 3
      have z4 := M2.out.z.frozen 4
      have hbl := M2.out.z.lt
      clear hi HR0 HI
      go_wp2
      obtain ⟨d0, d1, d2, d3, d4⟩ := (M2.out.zcells (.string o) (.string nm) (.int .i64 n) (.slice A ll cap) (.int .i64 p)).cells
      rw [HR.out]
      refine bodyPost_ret (v := .agg #[.string o, .string nm, .int .i64 n, .slice A ll cap, .int .i64 p]) (by simp [results, Tryz.results78, go_sem, d0, d1, d2, d3, d4]) rfl ?_
      exact M2.out.done (res := (some a, .good r)) rfl (fun x hx => by injection hx with hx; subst hx; exact E2.out.hs a rfl)
    | true =>
      have HR := Lib.hid (show lift (condX (dp l)) (.good us) = ((lift (dp l).c (.good r.tail)).1.bind (fun b => (lift (dp l).c ((lift (dp l).c (.good r.tail)).2.want [58])).1.map (fun c => Ex.cond a b c a.pos)), (lift (dp l).c ((lift (dp l).c (.good r.tail)).2.want [58])).2) by
        rw [show lift (condX (dp l)) (.good us) = exprP (condX (dp l) us) from rfl]
        unfold condX
        rw [HR0.out, condG, if_pos hi, lift_condH])
      obtain ⟨k, hk1, hk2, hT⟩ := M2.out.tail (isT_kind hi)
      have fk := M2.out.cells.2.2 1
      have hlk := M2.out.d.lt
      have hpne : w1.heap.size ≠ pb := by omega
      have E3 := Lib.hid (E2.out.setCell (p := ⟨pb, 1, none⟩) hpne (by show pb < _; omega) (.int .i64 ((k : Int) + 1)))
      have M3 := Lib.hid hT
      clear hi HR0 hT M2 E2
      go_wp2_with fail
      refine calls_gen (P := fun W => DV w W pb D (.good r.tail) ∧ EX W (w.heap.size + 1) w1.heap.size ⟨o, nm, n, A, ll, cap, p⟩ (some a)) ⟨M3.out, E3.out⟩ ?_
      rintro W2 ⟨hM, hE⟩
      refine (HI.out W2 pb _ (z + 1) HZ1.out hM.d).mono ?_
      rintro e w3 ⟨o3, nm3, n3, A3, ll3, cap3, p3, rfl, hF, hD, hx⟩
      have hsz := hM.f.size
      have hsz3 := hF.size
      have hszz := hM.z.lt
      have hse := hE.bx.lt
      have M4 := Lib.hid ((hM.step hF hD).alloc (.cells #[.string o3, .string nm3, .int .i64 n3, .slice A3 ll3 cap3, .int .i64 p3] 70))
      have E4 := Lib.hid ((hE.fr hF hpne (by omega)).alloc (.cells #[.string o3, .string nm3, .int .i64 n3, .slice A3 ll3 cap3, .int .i64 p3] 70))
      have E5 := Lib.hid (EX.ofDP (lo := w.heap.size + 1) (res := lift (dp l).c (.good r.tail)) (by omega) hx)
      have HEP := Lib.hid (ex_pos hE)
      have hlz3 := (hM.step hF hD).d.lt
      have hb3 : w3.heap.size ≠ pb := by omega
      have hn13 : w1.heap.size < w3.heap.size := by omega
      obtain ⟨s2, hs2⟩ : ∃ s2, s2 = lift (dp l).c (.good r.tail) := ⟨_, rfl⟩
      rw [← hs2] at HR M4 E5
      clear hM hE hF hD hx M3 E3 hk1 fk hs2
      go_wp2_with fail
      refine calls_gen (P := fun W => DV w W pb D s2.2 ∧ EX W (w.heap.size + 1) w1.heap.size ⟨o, nm, n, A, ll, cap, p⟩ (some a) ∧ EX W (w.heap.size + 1) w3.heap.size ⟨o3, nm3, n3, A3, ll3, cap3, p3⟩ s2.1) ⟨M4.out, E4.out, E5.out⟩ ?_
      rintro W3 ⟨hM, hE, hE2⟩
      refine (rwant_any hM.d ⟨#[58]⟩).mono ?_
      rintro e w4 ⟨rfl, hF, hD⟩
      have M6 := Lib.hid (show DV w w4 pb D (s2.2.want [58]) from hM.step hF hD)
      have E6 := Lib.hid (hE.fr hF hpne (by omega))
      have E7 := Lib.hid (hE2.fr hF hb3 (by omega))
      have hs34 := hE2.bx.lt
      have hs4 := hF.size
      clear hM hE hE2 hF hD M4 E4 E5
      go_wp2_with fail
      refine calls_gen (P := fun W => DV w W pb D (s2.2.want [58]) ∧ EX W (w.heap.size + 1) w1.heap.size ⟨o, nm, n, A, ll, cap, p⟩ (some a) ∧ EX W (w.heap.size + 1) w3.heap.size ⟨o3, nm3, n3, A3, ll3, cap3, p3⟩ s2.1 ∧ w3.heap.size < W.heap.size) ⟨M6.out, E6.out, E7.out, by omega⟩ ?_
      rintro W4 ⟨hM, hE, hE2, hsw⟩
      refine (HI.out W4 pb _ (z + 1) HZ1.out hM.d).mono ?_
      rintro e w5 ⟨o5, nm5, n5, A5, ll5, cap5, p5, rfl, hF, hD, hx⟩
      have hs45 := hF.size
      have M8 := Lib.hid (hM.step hF hD)
      have E8 := Lib.hid (hE.fr hF hpne (by omega))
      have E9 := Lib.hid (hE2.fr hF hb3 (by omega))
      have HX := Lib.hid hx
      obtain ⟨e0, e1, e2, e3, e4⟩ := E8.out.bx.cells
      have hel := E8.out.bx.lt
      obtain ⟨f0, f1, f2, f3, f4⟩ := E9.out.bx.cells
      have hfl := E9.out.bx.lt
      obtain ⟨b0, b1, b2, b3, b4⟩ := M8.out.z.cells
      have z0 := M8.out.z.frozen 0
      have z1 := M8.out.z.frozen 1
      have z2 := M8.out.z.frozen 2
      have z3 := M8.out.z.frozen 3
      have z4 := M8.out.z.frozen 4
      have hbl := M8.out.z.lt
      have HZW := Lib.hid (show w.heap.size < W4.heap.size by omega)
      clear hM hE hE2 hF hD hx M6 E6 E7 HI
      go_wp2
      obtain ⟨d0, d1, d2, d3, d4⟩ := (M8.out.ucells (x0 := .string ⟨#[63]⟩) (x1 := .string ⟨#[]⟩) (x2 := .int .i64 0) (x3 := .slice (some ⟨w5.heap.size + 1, 0, none⟩) 3 3) (x4 := .int .i64 p) (((Below.refl _ _).alloc (by simp) (.cells #[.string o5, .string nm5, .int .i64 n5, .slice A5 ll5 cap5, .int .i64 p5] 70)).alloc (by simp) (.cells #[.string o, .string nm, .int .i64 n, .slice A ll cap, .int .i64 p, .string o3, .string nm3, .int .i64 n3, .slice A3 ll3 cap3, .int .i64 p3, .string o5, .string nm5, .int .i64 n5, .slice A5 ll5 cap5, .int .i64 p5] 70))).cells
      rw [HR.out]
      refine bodyPost_ret (v := .agg #[.string ⟨#[63]⟩, .string ⟨#[]⟩, .int .i64 0, .slice (some ⟨w5.heap.size + 1, 0, none⟩) 3 3, .int .i64 p]) (by simp [results, Tryz.results78, go_sem, d0, d1, d2, d3, d4]) rfl ?_
      refine M8.out.fin (res := (s2.1.bind (fun b => (lift (dp l).c (s2.2.want [58])).1.map (fun c => Ex.cond a b c a.pos)), (lift (dp l).c (s2.2.want [58])).2)) rfl (((Below.refl _ _).alloc (by simp) _).alloc (by simp) _) (fun x hx => ?_)
      obtain ⟨b, hb, hx⟩ := Option.bind_eq_some_iff.1 hx
      obtain ⟨c, hc, rfl⟩ := Option.map_eq_some_iff.1 hx
      have hw1 : w1.heap.size ≠ w.heap.size := by omega
      have hw3 : w3.heap.size ≠ w.heap.size := by omega
      have E9' := E9.out
      rw [hb] at E9'
      have E8z := (E8.out.far5 (bz := w.heap.size) hw1 (Nat.lt_succ_self _) (.string ⟨#[63]⟩) (.string ⟨#[]⟩) (.int .i64 0) (.slice (some ⟨w5.heap.size + 1, 0, none⟩) 3 3) (.int .i64 p)).alloc (.cells #[.string o5, .string nm5, .int .i64 n5, .slice A5 ll5 cap5, .int .i64 p5] 70)
      have E9z := (E9'.far5 (bz := w.heap.size) hw3 (Nat.lt_succ_self _) (.string ⟨#[63]⟩) (.string ⟨#[]⟩) (.int .i64 0) (.slice (some ⟨w5.heap.size + 1, 0, none⟩) 3 3) (.int .i64 p)).alloc (.cells #[.string o5, .string nm5, .int .i64 n5, .slice A5 ll5 cap5, .int .i64 p5] 70)
      have ECz := EX.newAt (W := (((((w5.setCell ⟨w.heap.size, 0, none⟩ (.string ⟨#[63]⟩)).setCell ⟨w.heap.size, 1, none⟩ (.string ⟨#[]⟩)).setCell ⟨w.heap.size, 2, none⟩ (.int .i64 0)).setCell ⟨w.heap.size, 3, none⟩ (.slice (some ⟨w5.heap.size + 1, 0, none⟩) 3 3)).setCell ⟨w.heap.size, 4, none⟩ (.int .i64 p))) (lo := w.heap.size + 1) (v := ⟨o5, nm5, n5, A5, ll5, cap5, p5⟩) (x := some c) (k := w5.heap.size) (by simp) (fun e he => by
        injection he with he
        subst he
        have hzw := HZW.out
        exact ((HX.out c hc).far5S (b := w.heap.size) (by unfold Rg; omega) _ _ _ _ _).wide (fun j _ hj => by unfold Rg at *; simp; omega))
      exact ex_cond E8z E9z ECz (by simp) (by omega) HEP.out
end Go.Proofs.YtddeplbgihcdkaaGreatDoor
