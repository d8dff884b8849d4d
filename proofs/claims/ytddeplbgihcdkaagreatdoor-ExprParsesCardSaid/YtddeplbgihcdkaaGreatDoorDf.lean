/-
  The document's parser of expressions: all its readers, at every level.
-/
import Derived.Test.YtddeplbgihcdkaaGreatDoorDe
import Derived.Test.YtddeplbgihcdkaaGreatDoorRC
import Derived.RegionTactic
import Derived.BigRegion
namespace Go.Proofs.YtddeplbgihcdkaaGreatDoor
open Go.RowKit Go.Sort

structure RD4 (D l lev : Nat) : Prop where
  c : RCD 78 (dp l).c D lev
  i : RCD 127 (dp l).i D lev
  n : RCD 207 (dp l).n D lev
  m : RCD 208 (dp l).m D lev
theorem rd4_zero {D lev : Nat} (h : D < lev) : RD4 D 0 lev := by
  refine ⟨fun w pb st z hz hs => ?_, fun w pb st z hz hs => ?_, fun w pb st z hz hs => ?_, fun w pb st z hz hs => ?_⟩ <;> subst hz <;> cases st
  · exact rcond_deep hs h
  · exact rcond_bad hs _
  · exact rimply_deep hs h
  · exact rimply_bad hs _
  · exact rnot_deep hs h
  · exact rnot_bad hs _
  · exact ratom_deep hs h
  · exact ratom_bad hs _
theorem rd4_succ {D l lev : Nat} (h : lev ≤ D) (ih : RD4 D l (lev + 1)) : RD4 D (l + 1) lev := by
  have s := shr_all (shr_dp l)
  have m : RCD 208 (minusX (dp l)) D lev := fun w pb st z hz hs => by
    cases st with
    | good us => exact ratom_main h ih.m ih.c w pb us z hz hs
    | bad c q => subst hz; exact ratom_bad hs _
  have k3 : RCK 3 (prodX (dp l)) D lev := rchain_3 m s.m
  have k2 : RCK 2 (sumX (dp l)) D lev := rchain_2 k3 s.p
  have n : RCD 207 (negX (dp l)) D lev := fun w pb st z hz hs => by
    cases st with
    | good us => exact rnot_main h k2 ih.n w pb us z hz hs
    | bad c q => subst hz; exact rnot_bad hs _
  have k1 : RCK 1 (conjX (dp l)) D lev := rchain_1 n s.n
  have k0 : RCK 0 (disjX (dp l)) D lev := rchain_0 k1 s.a
  have i : RCD 127 (implX (dp l)) D lev := fun w pb st z hz hs => by
    cases st with
    | good us => exact rimply_main h k0 ih.i w pb us z hz hs
    | bad c q => subst hz; exact rimply_bad hs _
  have c : RCD 78 (condX (dp l)) D lev := fun w pb st z hz hs => by
    cases st with
    | good us => exact rcond_main h i ih.c w pb us z hz hs
    | bad c q => subst hz; exact rcond_bad hs _
  exact ⟨c, i, n, m⟩
theorem rd4_all {D : Nat} : ∀ l lev : Nat, lev + l = D + 1 → RD4 D l lev
  | 0, lev, h => rd4_zero (by omega)
  | l + 1, lev, h => rd4_succ (by omega) (rd4_all l (lev + 1) (by omega))
/-- What the document's Parse tells. -/
def RPP (res : PR) (w : World) (e : Ending) (w' : World) : Prop :=
  match res with
  | .ok x _ => ∃ o nm n A l cap p, e = .returned (.tuple #[.agg #[.string o, .string nm, .int .i64 n, .slice A l cap, .int .i64 p], .int .i64 0, .int .i64 (-1)]) ∧ HC w' 70 w.heap.size w'.heap.size x (exC o nm n A l cap p) ∧ Below w.heap.size w w'
  | .er c q => e = .returned (.tuple #[.agg #[.string ⟨#[]⟩, .string ⟨#[]⟩, .int .i64 0, .slice none 0 0, .int .i64 0], .int .i64 (c : Int), .int .i64 (q : Int)]) ∧ Below w.heap.size w w' ∧ c ≠ 0
theorem rparse_bad (s : ByteArray) (n : Int) (w : World) (hn : n < 1 ∨ 64 < n) : Calls Tryz.prog 38 #[.string s, .int .i64 n] w fun e w' => e = .returned (.tuple #[.agg #[.string ⟨#[]⟩, .string ⟨#[]⟩, .int .i64 0, .slice none 0 0, .int .i64 0], .int .i64 1, .int .i64 (-1)]) ∧ Below w.heap.size w w' := by
  obtain ⟨c1, hc1⟩ : ∃ c, decide (n < 1) = c := ⟨_, rfl⟩
  obtain ⟨c2, hc2⟩ : ∃ c, decide (64 < n) = c := ⟨_, rfl⟩
  have g2 : (decide (n < 1) || decide (64 < n)) = true := by simpa using hn
  rw [hc1, hc2] at g2
  clear hn
  rcases c1 with _ | _ <;> rcases c2 with _ | _ <;> first | (exfalso; revert g2; decide) | skip
  all_goals
    clear g2
    go_enter Tryz.func38, Tryz.ntmps38
    go_wp2
    obtain ⟨d0, d1, d2, d3, d4⟩ := (BoxR.new w (.string ⟨#[]⟩) (.string ⟨#[]⟩) (.int .i64 0) (.slice none 0 0) (.int .i64 0)).cells
    exact bodyPost_ret (v := .tuple #[.agg #[.string ⟨#[]⟩, .string ⟨#[]⟩, .int .i64 0, .slice none 0 0, .int .i64 0], .int .i64 1, .int .i64 (-1)]) (by simp [results, Tryz.results38, go_sem, d0, d1, d2, d3, d4]) rfl ⟨rfl, (Below.refl _ _).alloc (Nat.le_refl _) _⟩
set_option maxHeartbeats 2000000 in
set_option maxRecDepth 100000 in
theorem rparse_any {s : ByteArray} {D : Nat} (w : World) (hs : s.size ≤ 65536) (h1 : 1 ≤ D) (h64 : D ≤ 64) : Calls Tryz.prog 38 #[.string s, .int .i64 (D : Int)] w (RPP (parseX D s.data.toList) w) := by
  have g1 : decide ((D : Int) < 1) = false := by simp; omega
  have g2 : decide ((64 : Int) < (D : Int)) = false := by simp; omega
  cases htk : toks s.data.toList with
  | error xp =>
    obtain ⟨x, q⟩ := xp
    have H := Lib.hid (fun W : World => rtokens_any s W hs)
    have HTK := Lib.hid htk
    have HR := Lib.hid (parse_er (D := D) htk)
    have HB := Lib.hid (BoxR.new w (.string ⟨#[]⟩) (.string ⟨#[]⟩) (.int .i64 0) (.slice none 0 0) (.int .i64 0))
    clear htk
    go_enter Tryz.func38, Tryz.ntmps38
    go_wp2_with fail
    refine (H.out _).mono ?_
    rintro e w1 (⟨ts', v, h1', _⟩ | ⟨x', q', h1', rfl, hx, hb1⟩)
    · rw [HTK.out] at h1'; cases h1'
    rw [HTK.out] at h1'
    injection h1' with h1'
    injection h1' with e1 e2
    subst e1 e2
    have g3 : ((x : Int) != 0) = true := by rw [bne_iff_ne]; omega
    have HX0 := Lib.hid (show x ≠ 0 by omega)
    have HB1 := Lib.hid (((Below.refl w.heap.size w).alloc (Nat.le_refl _) _).trans (hb1.mono (by simp)))
    have hbx := HB.out.below hb1
    clear hx HTK
    obtain ⟨b0, b1, b2, b3, b4⟩ := hbx.cells
    have z0 := hbx.frozen 0
    have z1 := hbx.frozen 1
    have z2 := hbx.frozen 2
    have z3 := hbx.frozen 3
    have z4 := hbx.frozen 4
    have hbl := hbx.lt
    have HBX := Lib.hid hbx
    clear hb1 hbx
    go_wp2
    obtain ⟨d0, d1, d2, d3, d4⟩ := (HBX.out.set5 (.string ⟨#[]⟩) (.string ⟨#[]⟩) (.int .i64 0) (.slice none 0 0) (.int .i64 0)).cells
    rw [HR.out]
    exact bodyPost_ret (v := .tuple #[.agg #[.string ⟨#[]⟩, .string ⟨#[]⟩, .int .i64 0, .slice none 0 0, .int .i64 0], .int .i64 (x : Int), .int .i64 (q : Int)]) (by simp [results, Tryz.results38, go_sem, d0, d1, d2, d3, d4]) rfl ⟨rfl, ((Fr.of (rb := w.heap.size) HB1.out).boxR (Nat.le_refl _) _ _ _ _ _).below (Nat.le_refl _), HX0.out⟩
  | ok ts =>
    have H := Lib.hid (fun W : World => rtokens_ok W hs htk)
    have HP := Lib.hid (parse_ok (D := D) htk)
    have HFI := Lib.hid (fine_toks (by rw [size_list]; exact hs) htk)
    have HC := Lib.hid (rd4_all (D := D) D 1 (by omega)).c
    have HB := Lib.hid (BoxR.new w (.string ⟨#[]⟩) (.string ⟨#[]⟩) (.int .i64 0) (.slice none 0 0) (.int .i64 0))
    clear htk
    go_enter Tryz.func38, Tryz.ntmps38
    go_wp2_with fail
    refine (H.out _).mono ?_
    rintro e w1 ⟨g, cap, rfl, hl0, hl1, ho, hb1⟩
    have HB1 := Lib.hid (((Below.refl w.heap.size w).alloc (Nat.le_refl _) _).trans (hb1.mono (by simp)))
    have hz1 : w.heap.size < w1.heap.size := by have := hb1.size; simp at this; omega
    have HBX := Lib.hid (HB.out.below hb1)
    obtain ⟨n, hn⟩ : ∃ n, n = ts.length := ⟨_, rfl⟩
    have HD0 := Lib.hid (show DR (w1.alloc (.cells #[.slice (some ⟨g, 0, none⟩) n cap, .int .i64 0, .int .i64 (D : Int), .int .i64 0, .int .i64 (-1)] 109)) w1.heap.size D ts 0 (-1) from
      ⟨⟨ts, 0, g, cap, rfl, hl0, hl1, by rw [hn]; exact heapN rfl _, by
        rw [hn] at *
        exact owns_below (owns_zero ho) ((Below.refl _ _).alloc (Nat.le_refl _) _)⟩, HFI.out, h64⟩)
    rw [← hn]
    clear hb1 ho hl0 hl1 hn
    go_wp2_with fail
    refine calls_gen (P := fun W => DS W w1.heap.size D (.good ts) ∧ BoxR W w.heap.size (.string ⟨#[]⟩) (.string ⟨#[]⟩) (.int .i64 0) (.slice none 0 0) (.int .i64 0) ∧ Fr w.heap.size w1.heap.size w W ∧ w1.heap.size < W.heap.size) ⟨HD0.out, HBX.out.alloc _, (Fr.of HB1.out).alloc HB1.out.size _, by simp⟩ ?_
    rintro W ⟨hD, hB, hF, hlt⟩
    refine (HC.out W w1.heap.size (.good ts) 1 rfl hD).mono ?_
    rintro e w2 ⟨o, nm, n2, A, ll, cap2, p, rfl, hF2, hD2, hx⟩
    have hne : w.heap.size ≠ w1.heap.size := by omega
    have hs2 := hF2.size
    have HB2 := Lib.hid (hB.fr hF2 hne)
    have HF2 := Lib.hid (hF.on hF.size hF2)
    have HLT := Lib.hid hlt
    cases hres : (dp D).c ts with
    | er c q =>
      rw [lift_er hres] at hD2 hx
      have HR := Lib.hid (show parseX D s.data.toList = .er c q by rw [HP.out, hres]; rfl)
      have hc0 : c ≠ 0 := hD2.1
      have HC0 := Lib.hid hc0
      obtain ⟨_, us2, hDR⟩ := hD2
      have g4 : ((c : Int) == 0) = false := by rw [beq_eq_false_iff_ne]; omega
      have g5 : ((c : Int) != 0) = true := by rw [bne_iff_ne]; omega
      obtain ⟨x2, x3, x4, _⟩ := hDR.cells
      have hl2 := hDR.lt
      obtain ⟨b0, b1, b2, b3, b4⟩ := HB2.out.cells
      have z0 := HB2.out.frozen 0
      have z1 := HB2.out.frozen 1
      have z2 := HB2.out.frozen 2
      have z3 := HB2.out.frozen 3
      have z4 := HB2.out.frozen 4
      have hbl := HB2.out.lt
      clear hD hB hF hF2 hx hDR hres hc0 HP HD0 HBX HB1 HLT
      go_wp2
      go_region
      go_wp2
      obtain ⟨d0, d1, d2, d3, d4⟩ := ((((HB2.out.set5 (.string ⟨#[]⟩) (.string ⟨#[]⟩) (.int .i64 0) (.slice none 0 0) (.int .i64 0)).alloc (.cells #[.string o, .string nm, .int .i64 n2, .slice A ll cap2, .int .i64 p] 70))).below (Below.refl _ _).drew).cells
      rw [HR.out]
      exact bodyPost_ret (v := .tuple #[.agg #[.string ⟨#[]⟩, .string ⟨#[]⟩, .int .i64 0, .slice none 0 0, .int .i64 0], .int .i64 (c : Int), .int .i64 (q : Int)]) (by simp [results, Tryz.results38, go_sem, d0, d1, d2, d3, d4]) rfl ⟨rfl, (((HF2.out.boxR (Nat.le_refl _) _ _ _ _ _).alloc (by simp; omega) _).drew).below (by omega), HC0.out⟩
    | ok x r =>
      rw [lift_ok hres] at hD2 hx
      have HR0 := Lib.hid (show parseX D s.data.toList = endX (.ok x r) by rw [HP.out, hres])
      have HX := Lib.hid hx
      have M2 := Lib.hid (hD2.alloc (.cells #[.string o, .string nm, .int .i64 n2, .slice A ll cap2, .int .i64 p] 70))
      obtain ⟨x2, x3, _⟩ := hD2.cells
      replace x3 : w2.cell? ⟨w1.heap.size, 3, none⟩ = some (.int .i64 ((0 : Nat) : Int)) := x3
      have hl2 := hD2.lt
      clear hD hB hF hF2 hx hD2 hres HP HD0 HBX HB1
      go_wp2_with fail
      refine calls_gen (P := fun U => DS U w1.heap.size D (.good r) ∧ BoxR U w.heap.size (.string ⟨#[]⟩) (.string ⟨#[]⟩) (.int .i64 0) (.slice none 0 0) (.int .i64 0) ∧ EX U (w.heap.size + 1) w2.heap.size ⟨o, nm, n2, A, ll, cap2, p⟩ (some x) ∧ Fr w.heap.size w1.heap.size w U) ⟨M2.out, HB2.out.alloc _, EX.ofDP (res := (some x, St.good r)) (by omega) HX.out, HF2.out.alloc HF2.out.size _⟩ ?_
      rintro U ⟨hM, hZ, hE, hFU⟩
      refine (rnow_any hM).mono ?_
      rintro e w3 ⟨rfl, hb3⟩
      have M3 := Lib.hid (show DS w3 w1.heap.size D (.good r) from DS.below hM hb3)
      have Z3 := Lib.hid (hZ.below hb3)
      have E3 := Lib.hid (hE.below hb3)
      have F3 := Lib.hid (hFU.onB hFU.size hb3)
      have hf0 := fieldr0
      clear hM hZ hE hFU hb3 x2 x3 hl2 M2
      by_cases h0 : (hd r).kind = 0
      · have g6 : (((hd r).kind : Int) != 0) = false := by simp [h0]
        have HR := Lib.hid (show parseX D s.data.toList = .ok x r by rw [HR0.out, endX, if_pos h0])
        obtain ⟨x2, x3, _⟩ := M3.out.cells
        replace x3 : w3.cell? ⟨w1.heap.size, 3, none⟩ = some (.int .i64 ((0 : Nat) : Int)) := x3
        have hl3 := M3.out.lt
        obtain ⟨e0, e1, e2, e3, e4⟩ := E3.out.bx.cells
        have hel := E3.out.bx.lt
        obtain ⟨b0, b1, b2, b3, b4⟩ := Z3.out.cells
        have z0 := Z3.out.frozen 0
        have z1 := Z3.out.frozen 1
        have z2 := Z3.out.frozen 2
        have z3 := Z3.out.frozen 3
        have z4 := Z3.out.frozen 4
        have hbl := Z3.out.lt
        clear h0
        go_wp2
        obtain ⟨d0, d1, d2, d3, d4⟩ := (Z3.out.set5 (.string o) (.string nm) (.int .i64 n2) (.slice A ll cap2) (.int .i64 p)).cells
        rw [HR.out]
        refine bodyPost_ret (v := .tuple #[.agg #[.string o, .string nm, .int .i64 n2, .slice A ll cap2, .int .i64 p], .int .i64 0, .int .i64 (-1)]) (by simp [results, Tryz.results38, go_sem, d0, d1, d2, d3, d4]) rfl ⟨o, nm, n2, A, ll, cap2, p, rfl, ?_, ?_⟩
        · exact ((E3.out.hs x rfl).far5S (b := w.heap.size) (by unfold Rg; omega) _ _ _ _ _).wide (fun j _ hj => by unfold Rg at *; simp; omega)
        · exact (F3.out.boxR (Nat.le_refl _) _ _ _ _ _).below (by omega)
      · have g6 : (((hd r).kind : Int) != 0) = true := by rw [bne_iff_ne]; omega
        have HR := Lib.hid (show parseX D s.data.toList = .er 20 (hd r).pos by rw [HR0.out, endX, if_neg h0])
        clear h0
        go_wp2_with fail
        refine (rfail_any M3.out 20 (by decide) 20 rfl).mono ?_
        rintro e w4 ⟨rfl, hF4, hD4⟩
        unfold zeroE
        obtain ⟨_, us4, hDR⟩ := hD4
        obtain ⟨x2, x3, x4, _⟩ := hDR.cells
        replace x3 : w4.cell? ⟨w1.heap.size, 3, none⟩ = some (.int .i64 20) := x3
        have hl4 := hDR.lt
        have Z4 := Lib.hid (Z3.out.fr hF4 hne)
        have F4 := Lib.hid (F3.out.on F3.out.size hF4)
        obtain ⟨b0, b1, b2, b3, b4⟩ := Z4.out.cells
        have z0 := Z4.out.frozen 0
        have z1 := Z4.out.frozen 1
        have z2 := Z4.out.frozen 2
        have z3 := Z4.out.frozen 3
        have z4 := Z4.out.frozen 4
        have hbl := Z4.out.lt
        clear hDR hF4 M3 Z3 E3 F3
        go_wp2
        go_region
        go_wp2
        obtain ⟨d0, d1, d2, d3, d4⟩ := ((Z4.out.set5 (.string ⟨#[]⟩) (.string ⟨#[]⟩) (.int .i64 0) (.slice none 0 0) (.int .i64 0)).below (Below.refl _ _).drew).cells
        rw [HR.out]
        exact bodyPost_ret (v := .tuple #[.agg #[.string ⟨#[]⟩, .string ⟨#[]⟩, .int .i64 0, .slice none 0 0, .int .i64 0], .int .i64 20, .int .i64 ((hd r).pos : Int)]) (by simp [results, Tryz.results38, go_sem, d0, d1, d2, d3, d4]) rfl ⟨rfl, ((F4.out.boxR (Nat.le_refl _) _ _ _ _ _).drew).below (by omega), by decide⟩
end Go.Proofs.YtddeplbgihcdkaaGreatDoor
