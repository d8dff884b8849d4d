/-
  The document's Parse of formulas, walked.
-/
import Derived.Test.YtjhicgllofjpoaaGreatDoorZA
import Derived.Test.YtjhicgllofjpoaaGreatDoorRC
import Derived.Test.YtjhicgllofjpoaaGreatDoorJA
import Derived.RegionTactic
import Derived.BigRegion
namespace Go.Proofs.YtjhicgllofjpoaaGreatDoor
open Go.RowKit Go.Sort

theorem fx_lowR {X : Nat → Prop} {a c : World} {B : Nat} (h : Fx X a c) (hB : B ≤ a.heap.size) (hx : ∀ k, X k → B ≤ k) : Below B a c := ⟨h.os, h.tape, h.output, h.size, fun k hk => h.block k (by omega) (fun e => by have := hx k e; omega)⟩
theorem below_setR {B q : Nat} {a w : World} {x0 x1 x2 x3 : Value} (h : Below B a w) (hq : B ≤ q) : Below B a ((((w.setCell ⟨q, 0, none⟩ x0).setCell ⟨q, 1, none⟩ x1).setCell ⟨q, 2, none⟩ x2).setCell ⟨q, 3, none⟩ x3) :=
  (((h.setCell (p := ⟨q, 0, none⟩) hq x0).setCell (p := ⟨q, 1, none⟩) hq x1).setCell (p := ⟨q, 2, none⟩) hq x2).setCell (p := ⟨q, 3, none⟩) hq x3
/-- What start leaves. -/
def StaP (D : Nat) (r : Res) (w : World) (e : Ending) (w' : World) : Prop :=
  match r with
  | .ok ts => ∃ pb, e = .returned (.tuple #[.pointer (some ⟨pb, 0, none⟩), .int .i64 0, .int .i64 (-1)]) ∧ w.heap.size ≤ pb ∧ DS w' pb D (.good ts) ∧ Below w.heap.size w w'
  | .error x => ∃ P, e = .returned (.tuple #[.pointer P, .int .i64 (x.1 : Int), .int .i64 (x.2 : Int)]) ∧ x.1 ≠ 0 ∧ Below w.heap.size w w'
theorem rstart_bad (s : ByteArray) (n : Int) (w : World) (hn : n < 1 ∨ 64 < n) : Calls Tryz.prog 26 #[.string s, .int .i64 n] w fun e w' => e = .returned (.tuple #[.pointer none, .int .i64 1, .int .i64 (-1)]) ∧ w = w' := by
  by_cases h : n < 1
  · have g1 : decide (n < 1) = true := decide_eq_true h
    clear hn h
    go_enter Tryz.func26, Tryz.ntmps26
    go_wp2
    go_ret3
    exact ⟨rfl, rfl⟩
  · have h2 : 64 < n := by rcases hn with hd | hd; exact absurd hd h; exact hd
    have g1 : decide (n < 1) = false := decide_eq_false h
    have g2 : decide (64 < n) = true := decide_eq_true h2
    clear hn h h2
    go_enter Tryz.func26, Tryz.ntmps26
    go_wp2
    go_ret3
    exact ⟨rfl, rfl⟩
set_option maxHeartbeats 2000000 in
theorem rstart_any {s : ByteArray} {D : Nat} (w : World) (hs : s.size ≤ 65536) (h1 : 1 ≤ D) (h64 : D ≤ 64) : Calls Tryz.prog 26 #[.string s, .int .i64 (D : Int)] w (StaP D (toks s.data.toList) w) := by
  have g1 : decide ((D : Int) < 1) = false := by simp; omega
  have g2 : decide ((64 : Int) < (D : Int)) = false := by simp; omega
  cases htk : toks s.data.toList with
  | error xp =>
    obtain ⟨x, q⟩ := xp
    have H := Lib.hid (rtokens_any s w hs)
    have HTK := Lib.hid htk
    clear htk
    go_enter Tryz.func26, Tryz.ntmps26
    go_wp2_with fail
    refine (H.out).mono ?_
    rintro e w1 (⟨ts', v, h1', _⟩ | ⟨x', q', h1', rfl, hx, hb1⟩)
    · rw [HTK.out] at h1'; cases h1'
    rw [HTK.out] at h1'
    injection h1' with h1'
    injection h1' with e1 e2
    subst e1 e2
    have HX := Lib.hid (show x ≠ 0 by omega)
    have HB := Lib.hid hb1
    clear hb1 hx HTK
    go_wp2
    go_ret3
    exact ⟨_, rfl, HX.out, HB.out.alloc HB.out.size _⟩
  | ok ts =>
    have H := Lib.hid (rtokens_ok w hs htk)
    have HFI := Lib.hid (fine_toks (by rw [size_list]; exact hs) htk)
    clear htk
    go_enter Tryz.func26, Tryz.ntmps26
    go_wp2_with fail
    refine (H.out).mono ?_
    rintro e w1 ⟨g, cap, rfl, hl0, hl1, ho, hb1⟩
    have HB1 := Lib.hid hb1
    obtain ⟨n, hn⟩ : ∃ n, n = ts.length := ⟨_, rfl⟩
    have HD0 := Lib.hid (show DR (w1.alloc (.cells #[.slice (some ⟨g, 0, none⟩) n cap, .int .i64 0, .int .i64 (D : Int), .int .i64 0, .int .i64 (-1)] 68)) w1.heap.size D ts 0 (-1) from
      ⟨⟨ts, 0, g, cap, rfl, hl0, hl1, by rw [hn]; exact heapN rfl _, by
        rw [hn] at *
        exact owns_below (owns_zero ho) ((Below.refl _ _).alloc (Nat.le_refl _) _)⟩, HFI.out, h64⟩)
    rw [← hn]
    clear hb1 ho hl0 hl1 hn
    go_wp2
    go_ret3
    exact ⟨_, rfl, HB1.out.size, HD0.out, HB1.out.alloc HB1.out.size _⟩
/-- What the document's Parse tells. -/
def RPF (res : FP) (w : World) (e : Ending) (w' : World) : Prop :=
  match res with
  | .ok x => ∃ v : FV, e = .returned (.tuple #[.agg #[.string v.o, .string v.nm, .slice v.A v.ll v.cap, .int .i64 v.p], .int .i64 0, .int .i64 (-1)]) ∧ FOT 32 w' (Rg w.heap.size w'.heap.size) (some x) v ∧ Below w.heap.size w w'
  | .er c q => e = .returned (.tuple #[.agg #[.string ⟨#[]⟩, .string ⟨#[]⟩, .slice none 0 0, .int .i64 0], .int .i64 (c : Int), .int .i64 (q : Int)]) ∧ Below w.heap.size w w' ∧ c ≠ 0
def RPA (w : World) (e : Ending) (w' : World) : Prop := e = .returned (.tuple #[.agg #[.string ⟨#[]⟩, .string ⟨#[]⟩, .slice none 0 0, .int .i64 0], .int .i64 1, .int .i64 (-1)]) ∧ Below w.heap.size w w'
set_option maxHeartbeats 1000000 in
theorem rfparse_bad (s : ByteArray) (n : Int) (w : World) (hn : n < 1 ∨ 64 < n) : Calls Tryz.prog 8 #[.string s, .int .i64 n] w (RPA w) := by
  have H := Lib.hid (fun W : World => rstart_bad s n W hn)
  clear hn
  go_enter Tryz.func8, Tryz.ntmps8
  go_wp2_with fail
  refine calls_gen (P := fun W => Bx W w.heap.size 32 zc4 ∧ Below w.heap.size w W) ⟨Bx.new w 32 zc4, (Below.refl _ _).alloc (Nat.le_refl _) _⟩ ?_
  rintro W ⟨hB, hF⟩
  refine (H.out W).mono ?_
  rintro e w1 ⟨rfl, rfl⟩
  obtain ⟨b0, b1, b2, b3⟩ := Bx.cells4 hB
  obtain ⟨y0, y1, y2, y3⟩ := Bx.frozen4 hB
  have hbl := hB.lt
  have HB := Lib.hid hB
  have HF := Lib.hid hF
  clear hB hF
  go_wp2
  obtain ⟨d0, d1, d2, d3⟩ := (Bx.set4 (x0 := .string ⟨#[]⟩) (x1 := .string ⟨#[]⟩) (x2 := .slice none 0 0) (x3 := .int .i64 0) HB.out).cells4
  refine bodyPost_ret (v := .tuple #[.agg #[.string ⟨#[]⟩, .string ⟨#[]⟩, .slice none 0 0, .int .i64 0], .int .i64 1, .int .i64 (-1)]) (by simp [results, Tryz.results8, go_sem, d0, d1, d2, d3]) rfl ⟨rfl, ?_⟩
  exact below_setR HF.out (Nat.le_refl _)
set_option maxHeartbeats 4000000 in
set_option maxRecDepth 100000 in
theorem rfparse_any {s : ByteArray} {D : Nat} (w : World) (hs : s.size ≤ 65536) (h1 : 1 ≤ D) (h64 : D ≤ 64) : Calls Tryz.prog 8 #[.string s, .int .i64 (D : Int)] w (RPF (parseF D s.data.toList) w) := by
  have H := Lib.hid (fun W : World => rstart_any (s := s) (D := D) W hs h1 h64)
  cases htk : toks s.data.toList with
  | error xp =>
    obtain ⟨x, q⟩ := xp
    rw [htk] at H
    have HR := Lib.hid (show parseF D s.data.toList = .er x q by rw [parseF, htk])
    clear htk
    go_enter Tryz.func8, Tryz.ntmps8
    go_wp2_with fail
    refine calls_gen (P := fun W => Bx W w.heap.size 32 zc4 ∧ Below w.heap.size w W) ⟨Bx.new w 32 zc4, (Below.refl _ _).alloc (Nat.le_refl _) _⟩ ?_
    rintro W ⟨hB, hF⟩
    refine (H.out W).mono ?_
    rintro e w1 ⟨P, rfl, hx, hb1⟩
    have hx' : x ≠ 0 := hx
    have g3 : ((x : Int) != 0) = true := by rw [bne_iff_ne]; omega
    have hB1 := hB.below hb1
    obtain ⟨b0, b1, b2, b3⟩ := Bx.cells4 hB1
    obtain ⟨y0, y1, y2, y3⟩ := Bx.frozen4 hB1
    have hbl := hB1.lt
    have HX := Lib.hid hx'
    have HB := Lib.hid hB1
    have HF := Lib.hid (hF.trans (hb1.mono hF.size))
    clear hB hF hb1 hB1 hx hx'
    go_wp2
    obtain ⟨d0, d1, d2, d3⟩ := (Bx.set4 (x0 := .string ⟨#[]⟩) (x1 := .string ⟨#[]⟩) (x2 := .slice none 0 0) (x3 := .int .i64 0) HB.out).cells4
    rw [HR.out]
    exact bodyPost_ret (v := .tuple #[.agg #[.string ⟨#[]⟩, .string ⟨#[]⟩, .slice none 0 0, .int .i64 0], .int .i64 (x : Int), .int .i64 (q : Int)]) (by simp [results, Tryz.results8, go_sem, d0, d1, d2, d3]) rfl ⟨rfl, below_setR HF.out (Nat.le_refl _), HX.out⟩
  | ok ts =>
    rw [htk] at H
    have HC := Lib.hid (rdd_all h64 D 1 (by omega)).f
    have HP := Lib.hid (show parseF D s.data.toList = endF ((dq D).f (.good ts)) by rw [parseF, htk])
    have HSM := Lib.hid ((rok_dq D).f.some_ (.good ts))
    clear htk
    go_enter Tryz.func8, Tryz.ntmps8
    go_wp2_with fail
    refine calls_gen (P := fun W => Bx W w.heap.size 32 zc4 ∧ Below w.heap.size w W) ⟨Bx.new w 32 zc4, (Below.refl _ _).alloc (Nat.le_refl _) _⟩ ?_
    rintro W ⟨hB, hF⟩
    refine (H.out W).mono ?_
    rintro e w1 ⟨pb, rfl, hpb, hD, hb1⟩
    have hzB := hB.lt
    have HB := Lib.hid (hB.below hb1)
    have HF := Lib.hid (hF.trans (hb1.mono hF.size))
    have HD := Lib.hid hD
    have hpw : w.heap.size < pb := by omega
    have hz1 := hb1.size
    clear hB hF hb1 hD
    go_wp2_with fail
    refine (HC.out w1 pb _ _ _ rfl rfl HD.out).mono ?_
    rintro e w2 ⟨v, rfl, hO, hM, hF2⟩
    have hz2 := hF2.size
    have hne : w.heap.size ≠ pb := by omega
    have hB2 := HB.out.fx hF2 (fun h => hne (show w.heap.size = pb from h))
    have hb2 : Below w.heap.size w1 w2 := fx_lowR hF2 (by omega) (fun k hk => by rw [show k = pb from hk]; omega)
    have HB2 := Lib.hid (hB2.alloc (.cells #[.string v.o, .string v.nm, .slice v.A v.ll v.cap, .int .i64 v.p] 32))
    have HE2 := Lib.hid (Bx.new w2 32 v.c)
    have HO2 := Lib.hid ((hO.wide (T := fun j => w.heap.size + 1 ≤ j ∧ j < w2.heap.size) (fun j _ hj => ⟨by have := hj.1; omega, hj.2⟩)).alloc (.cells #[.string v.o, .string v.nm, .slice v.A v.ll v.cap, .int .i64 v.p] 32))
    have HM2 := Lib.hid (hM.alloc (.cells #[.string v.o, .string v.nm, .slice v.A v.ll v.cap, .int .i64 v.p] 32))
    have HF3 := Lib.hid ((HF.out.trans hb2).alloc (by omega) (.cells #[.string v.o, .string v.nm, .slice v.A v.ll v.cap, .int .i64 v.p] 32))
    have hMS := hM.cells
    have hplt := hM.lt
    generalize hr : (dq D).f (.good ts) = r at *
    obtain ⟨o, st⟩ := r
    cases st with
    | bad c q =>
      have hc0 : c ≠ 0 := hM.1
      obtain ⟨_, us2, hDR⟩ := hM
      obtain ⟨x2, x3, x4, _⟩ := hDR.cells
      have g4 : ((c : Int) == 0) = false := by rw [beq_eq_false_iff_ne]; omega
      have g5 : ((c : Int) != 0) = true := by rw [bne_iff_ne]; omega
      have HR := Lib.hid (show parseF D s.data.toList = .er c q by rw [HP.out]; rfl)
      have HC0 := Lib.hid hc0
      obtain ⟨b0, b1, b2, b3⟩ := Bx.cells4 hB2
      obtain ⟨y0, y1, y2, y3⟩ := Bx.frozen4 hB2
      have hbl := hB2.lt
      have HB3 := Lib.hid hB2
      have HFx := Lib.hid (HF.out.trans hb2)
      clear hDR hO hF2 hB2 hb2 hr hc0 hMS
      go_wp2
      go_region
      go_wp2
      obtain ⟨d0, d1, d2, d3⟩ := (((Bx.set4 (x0 := .string ⟨#[]⟩) (x1 := .string ⟨#[]⟩) (x2 := .slice none 0 0) (x3 := .int .i64 0) HB3.out).alloc (.cells #[.string v.o, .string v.nm, .slice v.A v.ll v.cap, .int .i64 v.p] 32)).below (Below.refl _ _).drew).cells4
      rw [HR.out]
      exact bodyPost_ret (v := .tuple #[.agg #[.string ⟨#[]⟩, .string ⟨#[]⟩, .slice none 0 0, .int .i64 0], .int .i64 (c : Int), .int .i64 (q : Int)]) (by simp [results, Tryz.results8, go_sem, d0, d1, d2, d3]) rfl ⟨rfl, ((below_setR HFx.out (Nat.le_refl _)).alloc (by simp; omega) _).drew, HC0.out⟩
    | good us =>
      have hM : DS w2 pb D (.good us) := hM
      obtain ⟨x2, x3, _⟩ := hMS
      replace x3 : w2.cell? ⟨pb, 3, none⟩ = some (.int .i64 ((0 : Nat) : Int)) := x3
      have hf0 := fieldr0
      obtain ⟨x, hx⟩ := HSM.out us rfl
      have hx : o = some x := hx
      subst hx
      clear hO hF2 hB2 hb2 hM hr
      go_wp2_with fail
      refine calls_gen (P := fun U => DS U pb D (.good us) ∧ Bx U w.heap.size 32 zc4 ∧ Bx U w2.heap.size 32 v.c ∧ FOT 32 U (fun j => w.heap.size + 1 ≤ j ∧ j < w2.heap.size) (some x) v ∧ Below w.heap.size w U ∧ w2.heap.size < U.heap.size) ⟨HM2.out, HB2.out, HE2.out, HO2.out, HF3.out, by simp⟩ ?_
      rintro U ⟨hM, hZ, hE, hO, hFU, hzU⟩
      refine (rnow_any hM).mono ?_
      rintro e w3 ⟨rfl, hb3⟩
      have hz3 := hb3.size
      have M3 := Lib.hid (show DS w3 pb D (.good us) from DS.below hM hb3)
      have hZ3 := hZ.below hb3
      have hE3 := hE.below hb3
      have HZ3 := Lib.hid hZ3
      have HO3 := Lib.hid (hO.below hb3)
      have HF4 := Lib.hid (hFU.trans (hb3.mono hFU.size))
      clear hM hZ hE hO hFU hb3 x2 x3 HM2 HB2 HE2 HO2 HF3 hplt
      by_cases h0 : (hd us).kind = 0
      · have g6 : (((hd us).kind : Int) != 0) = false := by simp [h0]
        have HR := Lib.hid (show parseF D s.data.toList = .ok x by rw [HP.out]; simp [endF, h0])
        obtain ⟨x2, x3, _⟩ := M3.out.cells
        replace x3 : w3.cell? ⟨pb, 3, none⟩ = some (.int .i64 ((0 : Nat) : Int)) := x3
        have hl3 := M3.out.lt
        obtain ⟨e0, e1, e2, e3⟩ := Bx.cells4 hE3
        have hel := hE3.lt
        obtain ⟨b0, b1, b2, b3⟩ := Bx.cells4 hZ3
        obtain ⟨y0, y1, y2, y3⟩ := Bx.frozen4 hZ3
        have hbl := hZ3.lt
        clear h0 hZ3 hE3
        go_wp2
        obtain ⟨d0, d1, d2, d3⟩ := (Bx.set4 (x0 := .string v.o) (x1 := .string v.nm) (x2 := .slice v.A v.ll v.cap) (x3 := .int .i64 v.p) HZ3.out).cells4
        rw [HR.out]
        refine bodyPost_ret (v := .tuple #[.agg #[.string v.o, .string v.nm, .slice v.A v.ll v.cap, .int .i64 v.p], .int .i64 0, .int .i64 (-1)]) (by simp [results, Tryz.results8, go_sem, d0, d1, d2, d3]) rfl ⟨v, rfl, ?_, ?_⟩
        · exact (HO3.out.setS4 (by omega)).wide (fun j _ hj => ⟨by omega, by simp; omega⟩)
        · exact below_setR HF4.out (Nat.le_refl _)
      · have g6 : (((hd us).kind : Int) != 0) = true := by rw [bne_iff_ne]; omega
        have HR := Lib.hid (show parseF D s.data.toList = .er 20 (hd us).pos by rw [HP.out]; simp [endF, h0])
        clear h0 hZ3 hE3
        go_wp2_with fail
        refine (rfail_any M3.out 20 (by decide) 20 rfl).mono ?_
        rintro e w4 ⟨rfl, hF5, hD4⟩
        unfold zeroE
        obtain ⟨_, us4, hDR⟩ := hD4
        obtain ⟨x2, x3, x4, _⟩ := hDR.cells
        replace x3 : w4.cell? ⟨pb, 3, none⟩ = some (.int .i64 20) := x3
        have hl4 := hDR.lt
        have hz4 := hF5.size
        have hZ4 := HZ3.out.fx (Fx.ofFr1 hF5) (fun h => hne (show w.heap.size = pb from h))
        have HZ4 := Lib.hid hZ4
        have HF5 := Lib.hid (HF4.out.trans (fx_lowR (Fx.ofFr1 hF5) (by omega) (fun k hk => by rw [show k = pb from hk]; omega)))
        obtain ⟨b0, b1, b2, b3⟩ := Bx.cells4 hZ4
        obtain ⟨y0, y1, y2, y3⟩ := Bx.frozen4 hZ4
        have hbl := hZ4.lt
        clear hDR hF5 M3 hZ4
        go_wp2
        go_region
        go_wp2
        obtain ⟨d0, d1, d2, d3⟩ := ((Bx.set4 (x0 := .string ⟨#[]⟩) (x1 := .string ⟨#[]⟩) (x2 := .slice none 0 0) (x3 := .int .i64 0) HZ4.out).below (Below.refl _ _).drew).cells4
        rw [HR.out]
        exact bodyPost_ret (v := .tuple #[.agg #[.string ⟨#[]⟩, .string ⟨#[]⟩, .slice none 0 0, .int .i64 0], .int .i64 20, .int .i64 ((hd us).pos : Int)]) (by simp [results, Tryz.results8, go_sem, d0, d1, d2, d3]) rfl ⟨rfl, (below_setR HF5.out (Nat.le_refl _)).drew, by decide⟩
end Go.Proofs.YtjhicgllofjpoaaGreatDoor
