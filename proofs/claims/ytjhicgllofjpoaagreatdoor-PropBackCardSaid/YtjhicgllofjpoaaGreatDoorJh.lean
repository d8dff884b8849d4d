/-
  A whole text read as a formula, walked.
-/
import Derived.Test.YtjhicgllofjpoaaGreatDoorJg
import Derived.Test.YtjhicgllofjpoaaGreatDoorJa
namespace Go.Proofs.YtjhicgllofjpoaaGreatDoor
open Go.RowKit Go.Sort

/-- What Parse leaves. -/
def PFQ (res : FP) (w : World) (e : Ending) (w' : World) : Prop :=
  match res with
  | .ok f => ∃ v : FV, e = .returned (.tuple #[.agg #[.string v.o, .string v.nm, .slice v.A v.ll v.cap, .int .i64 v.p], .nilIface]) ∧ FO w' w.heap.size w'.heap.size (some f) v ∧ Below w.heap.size w w'
  | .er c p => ∃ b, e = .returned (.tuple #[.agg #[.string ⟨#[]⟩, .string ⟨#[]⟩, .slice none 0 0, .int .i64 0], .iface 79 (.pointer (some ⟨b, 0, none⟩))]) ∧ AtE w' b p c ∧ Below w.heap.size w w'
theorem fx_low {X : Nat → Prop} {a c : World} {B : Nat} (h : Fx X a c) (hB : B ≤ a.heap.size) (hx : ∀ k, X k → B ≤ k) : Below B a c := ⟨h.os, h.tape, h.output, h.size, fun k hk => h.block k (by omega) (fun e => by have := hx k e; omega)⟩
theorem Bx.low {w w' : World} {B q : Nat} {t : TypeId} {cs : List Value} (h : Bx w q t cs) (hb : Below B w w') (hq : q < B) : Bx w' q t cs := (hb.block q hq).trans h
theorem below_set4 {B q : Nat} {a w : World} {x0 x1 x2 x3 : Value} (h : Below B a w) (hq : B ≤ q) : Below B a ((((w.setCell ⟨q, 0, none⟩ x0).setCell ⟨q, 1, none⟩ x1).setCell ⟨q, 2, none⟩ x2).setCell ⟨q, 3, none⟩ x3) :=
  (((h.setCell (p := ⟨q, 0, none⟩) hq x0).setCell (p := ⟨q, 1, none⟩) hq x1).setCell (p := ⟨q, 2, none⟩) hq x2).setCell (p := ⟨q, 3, none⟩) hq x3
theorem AtE.far4 {w : World} {b q : Nat} {p n : Int} {x0 x1 x2 x3 : Value} (h : AtE w b p n) (hq : b ≠ q) : AtE ((((w.setCell ⟨q, 0, none⟩ x0).setCell ⟨q, 1, none⟩ x1).setCell ⟨q, 2, none⟩ x2).setCell ⟨q, 3, none⟩ x3) b p n :=
  (((h.far (a := ⟨q, 0, none⟩) hq x0).far (a := ⟨q, 1, none⟩) hq x1).far (a := ⟨q, 2, none⟩) hq x2).far (a := ⟨q, 3, none⟩) hq x3
theorem glob_lo {w : World} (h : GlobS w) : 2 < w.heap.size ∧ 0 < w.heap.size := by
  have h0 := World.block_lt_of_cell? w _ h.glob.err
  obtain ⟨te, pe, he⟩ := h.rng
  have h1 := World.block_lt_of_cell? w _ he
  exact ⟨h1, h0⟩
set_option maxHeartbeats 2000000 in
theorem preadf_er {s : ByteArray} {l c p : Nat} (w : World) (hG : GlobS w) (hs : s.size ≤ 65536) (h64 : l + 1 ≤ 64) (htk : toks s.data.toList = .error (c, p)) : Calls Tryz.prog 24 #[.string s, .int .i64 ((l + 1 : Nat) : Int), .func (.func 25) #[] #[]] w (PFQ (.er c p) w) := by
  have g1 : decide ((l : Int) + 1 < 1) = false := by simp; omega
  have g2 : decide ((64 : Int) < (l : Int) + 1) = false := by simp; omega
  have g3 : (l : Int) + 1 - 1 = (l : Int) := by omega
  have HG := Lib.hid hG
  have HS := Lib.hid hs
  have HLO := Lib.hid (glob_lo hG)
  have HT := Lib.hid htk
  clear hG hs h64 htk
  go_enter Tryz.func24, Tryz.ntmps24
  go_wp2_with fail
  refine calls_gen (P := fun W => Bx W w.heap.size 25 zc4 ∧ Bx W (w.heap.size + 1) 25 zc4 ∧ Below w.heap.size w W) ⟨(Bx.new w 25 zc4).alloc _, Bx.newAt (by simp) 25 zc4, ((Below.refl _ _).alloc (Nat.le_refl _) _).alloc (by simp) _⟩ ?_
  rintro W ⟨hB, hN, hF⟩
  refine (new_erX W (HG.out.below hF) HS.out HT.out).mono ?_
  rintro e w1 ⟨b, rfl, hbb, hx, hA, hb⟩
  have hz := hF.size
  have hq := hB.lt
  have hq1 := hN.lt
  have hB1 := hB.below hb
  have hN1 := hN.below hb
  obtain ⟨b0, b1, b2, b3⟩ := Bx.cells4 hB1
  obtain ⟨y0, y1, y2, y3⟩ := Bx.frozen4 hB1
  obtain ⟨n0, n1, n2, n3⟩ := Bx.cells4 hN1
  have hl1 := hB1.lt
  have hl2 := hN1.lt
  have HB1 := Lib.hid hB1
  have HA := Lib.hid hA
  have HF1 := Lib.hid (hF.trans (hb.mono hF.size))
  clear hB hN hF hb hA hB1 hN1
  go_wp2
  obtain ⟨d0, d1, d2, d3⟩ := (Bx.set4 (x0 := .string ⟨#[]⟩) (x1 := .string ⟨#[]⟩) (x2 := .slice none 0 0) (x3 := .int .i64 0) HB1.out).cells4
  refine bodyPost_ret (v := .tuple #[.agg #[.string ⟨#[]⟩, .string ⟨#[]⟩, .slice none 0 0, .int .i64 0], .iface 79 (.pointer (some ⟨b, 0, none⟩))]) (by simp [results, Tryz.results24, go_sem, d0, d1, d2, d3]) rfl ⟨b, rfl, ?_, ?_⟩
  · exact HA.out.far4 (by omega)
  · exact below_set4 HF1.out (Nat.le_refl _)
set_option maxHeartbeats 2000000 in
theorem preadf_ok {s : ByteArray} {l : Nat} {ts : List Tok} {f : Fo} {us : List Tok} (hf : formS (dq l) (.good ts) = (some f, .good us)) (h0 : (hd us).kind = 0) (w : World) (hG : GlobS w) (hs : s.size ≤ 65536) (h64 : l + 1 ≤ 64) (htk : toks s.data.toList = .ok ts) : Calls Tryz.prog 24 #[.string s, .int .i64 ((l + 1 : Nat) : Int), .func (.func 25) #[] #[]] w (PFQ (.ok f) w) := by
  have g1 : decide ((l : Int) + 1 < 1) = false := by simp; omega
  have g2 : decide ((64 : Int) < (l : Int) + 1) = false := by simp; omega
  have g3 : (l : Int) + 1 - 1 = (l : Int) := by omega
  have HG := Lib.hid hG
  have HS := Lib.hid hs
  have HLO := Lib.hid (glob_lo hG)
  have HT := Lib.hid htk
  have HF0 := Lib.hid (form_any l)
  have hl64 : l ≤ 64 := by omega
  have HFF := Lib.hid hf
  have H0 := Lib.hid h0
  clear hf h0
  clear hG hs h64 htk
  go_enter Tryz.func24, Tryz.ntmps24
  go_wp2_with fail
  refine calls_gen (P := fun W => Bx W w.heap.size 25 zc4 ∧ Bx W (w.heap.size + 1) 25 zc4 ∧ Below w.heap.size w W) ⟨(Bx.new w 25 zc4).alloc _, Bx.newAt (by simp) 25 zc4, ((Below.refl _ _).alloc (Nat.le_refl _) _).alloc (by simp) _⟩ ?_
  rintro W ⟨hB, hN, hF⟩
  refine (new_tr W (HG.out.below hF) HS.out HT.out).mono ?_
  rintro e w1 ⟨rb, rfl, hrb, hTR, hb⟩
  have hz := hF.size
  have hq := hB.lt
  have hq1 := hN.lt
  have hz1 := hb.size
  have HB1 := Lib.hid (hB.below hb)
  have HN1 := Lib.hid (hN.below hb)
  have HTR := Lib.hid hTR
  have HF1 := Lib.hid (hF.trans (hb.mono hF.size))
  clear hB hN hF hb hTR
  go_wp2_with fail
  refine calls_gen (P := fun W2 => PRd W2 w1.heap.size rb w.heap.size l (.good ts) ∧ Bx W2 w.heap.size 25 zc4 ∧ Bx W2 (w.heap.size + 1) 25 zc4 ∧ Below w.heap.size w W2) ⟨⟨⟨.nilIface, Bx.new w1 105 [.pointer (some ⟨rb, 0, none⟩), .int .i64 (l : Int), .nilIface], rfl⟩, HTR.out.below ((Below.refl _ _).alloc (Nat.le_refl _) _), (HG.out.below HF1.out).below ((Below.refl _ _).alloc (Nat.le_refl _) _), hl64, HLO.out, ⟨by omega, by omega⟩, by simp; have := HTR.out.ltr; omega⟩, HB1.out.alloc _, HN1.out.alloc _, HF1.out.alloc (by omega) _⟩ ?_
  rintro W2 ⟨hM, hB, hN, hF⟩
  refine (HF0.out _ rb w.heap.size _ W2 hM).mono ?_
  rintro e w3 ⟨v3, rfl, hO3, hM3, hF3⟩
  have hz3 := hF3.size
  have hz2 := hN.lt
  have hbl : Below (w.heap.size + 2) W2 w3 := fx_low hF3 (by omega) (fun k hk => by rcases hk with rfl | rfl <;> omega)
  have HB3 := Lib.hid (hB.low hbl (by omega))
  have HN3 := Lib.hid (hN.low hbl (by omega))
  have HM3 := Lib.hid hM3
  have HO3 := Lib.hid hO3
  have HF3 := Lib.hid (hF.trans (hbl.mono (by omega)))
  clear hM hB hN hF hO3 hM3 hF3 hbl
  go_wp2_with fail
  refine calls_gen (P := fun W3 => PRd W3 w1.heap.size rb w.heap.size l (formS (dq l) (.good ts)).2 ∧ Bx W3 w.heap.size 25 zc4 ∧ Bx W3 (w.heap.size + 1) 25 zc4 ∧ Bx W3 w3.heap.size 25 v3.c ∧ FO W3 (W2.heap.size + 1) w3.heap.size (formS (dq l) (.good ts)).1 v3 ∧ Below w.heap.size w W3) ⟨HM3.out.alloc _, HB3.out.alloc _, HN3.out.alloc _, Bx.new w3 25 v3.c, HO3.out.alloc _, HF3.out.alloc (by omega) _⟩ ?_
  rintro W3 ⟨hM, hB, hN, hE, hO, hF⟩
  refine (pisend_any W3 hM).mono ?_
  rintro e w4 ⟨rfl, hb4⟩
  rw [HFF.out] at hM hO
  rw [show decide ((formS (dq l) (.good ts)).2.hd.kind = 0) = true by rw [HFF.out]; exact decide_eq_true H0.out]
  have hB5 := hB.below hb4
  have hE5 := hE.below hb4
  have hM5 := hM.below hb4
  obtain ⟨vv, c0, c1, c2, z0, z2, hvv⟩ := hM5.cells
  obtain rfl : vv = .nilIface := hvv
  have hx5 := hM5.ltx
  obtain ⟨b0, b1, b2, b3⟩ := Bx.cells4 hB5
  obtain ⟨y0, y1, y2, y3⟩ := Bx.frozen4 hB5
  obtain ⟨e0, e1, e2, e3⟩ := Bx.cells4 hE5
  have hl1 := hB5.lt
  have hl2 := hE5.lt
  have HB5 := Lib.hid hB5
  have HO5 := Lib.hid (hO.below hb4)
  have HF5 := Lib.hid (hF.trans (hb4.mono hF.size))
  have hz5 := hb4.size
  have hz6 := hE.lt
  clear hM hB hN hE hO hF hb4 hM5 hB5 hE5
  go_wp2
  obtain ⟨d0, d1, d2, d3⟩ := (Bx.set4 (x0 := .string v3.o) (x1 := .string v3.nm) (x2 := .slice v3.A v3.ll v3.cap) (x3 := .int .i64 v3.p) HB5.out).cells4
  refine bodyPost_ret (v := .tuple #[.agg #[.string v3.o, .string v3.nm, .slice v3.A v3.ll v3.cap, .int .i64 v3.p], .nilIface]) (by simp [results, Tryz.results24, go_sem, d0, d1, d2, d3]) rfl ⟨v3, rfl, ?_, ?_⟩
  · exact (HO5.out.set4 (.inl (by omega))).mono (by omega) (by simp; omega)
  · exact below_set4 HF5.out (Nat.le_refl _)
set_option maxHeartbeats 2000000 in
theorem preadf_bad {s : ByteArray} {l : Nat} {ts : List Tok} {c p : Nat} {o : Option Fo} (hf : formS (dq l) (.good ts) = (o, .bad c p)) (w : World) (hG : GlobS w) (hs : s.size ≤ 65536) (h64 : l + 1 ≤ 64) (htk : toks s.data.toList = .ok ts) : Calls Tryz.prog 24 #[.string s, .int .i64 ((l + 1 : Nat) : Int), .func (.func 25) #[] #[]] w (PFQ (.er c p) w) := by
  have g1 : decide ((l : Int) + 1 < 1) = false := by simp; omega
  have g2 : decide ((64 : Int) < (l : Int) + 1) = false := by simp; omega
  have g3 : (l : Int) + 1 - 1 = (l : Int) := by omega
  have HG := Lib.hid hG
  have HS := Lib.hid hs
  have HLO := Lib.hid (glob_lo hG)
  have HT := Lib.hid htk
  have HF0 := Lib.hid (form_any l)
  have hl64 : l ≤ 64 := by omega
  have HFF := Lib.hid hf
  clear hf
  clear hG hs h64 htk
  go_enter Tryz.func24, Tryz.ntmps24
  go_wp2_with fail
  refine calls_gen (P := fun W => Bx W w.heap.size 25 zc4 ∧ Bx W (w.heap.size + 1) 25 zc4 ∧ Below w.heap.size w W) ⟨(Bx.new w 25 zc4).alloc _, Bx.newAt (by simp) 25 zc4, ((Below.refl _ _).alloc (Nat.le_refl _) _).alloc (by simp) _⟩ ?_
  rintro W ⟨hB, hN, hF⟩
  refine (new_tr W (HG.out.below hF) HS.out HT.out).mono ?_
  rintro e w1 ⟨rb, rfl, hrb, hTR, hb⟩
  have hz := hF.size
  have hq := hB.lt
  have hq1 := hN.lt
  have hz1 := hb.size
  have HB1 := Lib.hid (hB.below hb)
  have HN1 := Lib.hid (hN.below hb)
  have HTR := Lib.hid hTR
  have HF1 := Lib.hid (hF.trans (hb.mono hF.size))
  clear hB hN hF hb hTR
  go_wp2_with fail
  refine calls_gen (P := fun W2 => PRd W2 w1.heap.size rb w.heap.size l (.good ts) ∧ Bx W2 w.heap.size 25 zc4 ∧ Bx W2 (w.heap.size + 1) 25 zc4 ∧ Below w.heap.size w W2) ⟨⟨⟨.nilIface, Bx.new w1 105 [.pointer (some ⟨rb, 0, none⟩), .int .i64 (l : Int), .nilIface], rfl⟩, HTR.out.below ((Below.refl _ _).alloc (Nat.le_refl _) _), (HG.out.below HF1.out).below ((Below.refl _ _).alloc (Nat.le_refl _) _), hl64, HLO.out, ⟨by omega, by omega⟩, by simp; have := HTR.out.ltr; omega⟩, HB1.out.alloc _, HN1.out.alloc _, HF1.out.alloc (by omega) _⟩ ?_
  rintro W2 ⟨hM, hB, hN, hF⟩
  refine (HF0.out _ rb w.heap.size _ W2 hM).mono ?_
  rintro e w3 ⟨v3, rfl, hO3, hM3, hF3⟩
  have hz3 := hF3.size
  have hz2 := hN.lt
  have hbl : Below (w.heap.size + 2) W2 w3 := fx_low hF3 (by omega) (fun k hk => by rcases hk with rfl | rfl <;> omega)
  have HB3 := Lib.hid (hB.low hbl (by omega))
  have HN3 := Lib.hid (hN.low hbl (by omega))
  have HM3 := Lib.hid hM3
  have HO3 := Lib.hid hO3
  have HF3 := Lib.hid (hF.trans (hbl.mono (by omega)))
  clear hM hB hN hF hO3 hM3 hF3 hbl
  go_wp2_with fail
  refine calls_gen (P := fun W3 => PRd W3 w1.heap.size rb w.heap.size l (formS (dq l) (.good ts)).2 ∧ Bx W3 w.heap.size 25 zc4 ∧ Bx W3 (w.heap.size + 1) 25 zc4 ∧ Bx W3 w3.heap.size 25 v3.c ∧ FO W3 (W2.heap.size + 1) w3.heap.size (formS (dq l) (.good ts)).1 v3 ∧ Below w.heap.size w W3) ⟨HM3.out.alloc _, HB3.out.alloc _, HN3.out.alloc _, Bx.new w3 25 v3.c, HO3.out.alloc _, HF3.out.alloc (by omega) _⟩ ?_
  rintro W3 ⟨hM, hB, hN, hE, hO, hF⟩
  refine (pisend_any W3 hM).mono ?_
  rintro e w4 ⟨rfl, hb4⟩
  rw [HFF.out] at hM hO
  rw [show decide ((formS (dq l) (.good ts)).2.hd.kind = 0) = true by rw [HFF.out]; rfl]
  have hB5 := hB.below hb4
  have hN5 := hN.below hb4
  have hM5 := hM.below hb4
  have hF5 := hF.trans (hb4.mono hF.size)
  clear hM hB hN hE hO hF hb4
  obtain ⟨vv, c0, c1, c2, z0, z2, eb, rfl, hA⟩ := hM5.cells
  have hx5 := hM5.ltx
  obtain ⟨b0, b1, b2, b3⟩ := Bx.cells4 hB5
  obtain ⟨y0, y1, y2, y3⟩ := Bx.frozen4 hB5
  obtain ⟨n0, n1, n2, n3⟩ := Bx.cells4 hN5
  have hl1 := hB5.lt
  have hl2 := hN5.lt
  have heb : eb ≠ w.heap.size := by
    rintro rfl
    obtain ⟨cs, ht⟩ := hA.typ
    have hq5 : _ = _ := hB5
    rw [hq5] at ht
    injection ht with ht
    injection ht with _ ht
    exact absurd ht (by decide)
  have HB5 := Lib.hid hB5
  have HA := Lib.hid hA
  have HF5 := Lib.hid hF5
  clear hA hM5 hB5 hN5 hF5
  go_wp2
  go_region
  all_goals
    go_wp2
    obtain ⟨d0, d1, d2, d3⟩ := (Bx.set4 (x0 := .string ⟨#[]⟩) (x1 := .string ⟨#[]⟩) (x2 := .slice none 0 0) (x3 := .int .i64 0) HB5.out).cells4
    refine bodyPost_ret (v := .tuple #[.agg #[.string ⟨#[]⟩, .string ⟨#[]⟩, .slice none 0 0, .int .i64 0], .iface 79 (.pointer (some ⟨eb, 0, none⟩))]) (by simp [results, Tryz.results24, go_sem, d0, d1, d2, d3]) rfl ⟨eb, rfl, ?_, ?_⟩
    · exact (HA.out.far4 heb).below (Below.refl _ _).drew
    · exact (below_set4 HF5.out (Nat.le_refl _)).drew
set_option maxHeartbeats 2000000 in
theorem preadf_tail {s : ByteArray} {l : Nat} {ts : List Tok} {o : Option Fo} {us : List Tok} (hf : formS (dq l) (.good ts) = (o, .good us)) (h0 : (hd us).kind ≠ 0) (w : World) (hG : GlobS w) (hs : s.size ≤ 65536) (h64 : l + 1 ≤ 64) (htk : toks s.data.toList = .ok ts) : Calls Tryz.prog 24 #[.string s, .int .i64 ((l + 1 : Nat) : Int), .func (.func 25) #[] #[]] w (PFQ (.er 20 (hd us).pos) w) := by
  have g1 : decide ((l : Int) + 1 < 1) = false := by simp; omega
  have g2 : decide ((64 : Int) < (l : Int) + 1) = false := by simp; omega
  have g3 : (l : Int) + 1 - 1 = (l : Int) := by omega
  have HG := Lib.hid hG
  have HS := Lib.hid hs
  have HLO := Lib.hid (glob_lo hG)
  have HT := Lib.hid htk
  have HF0 := Lib.hid (form_any l)
  have hl64 : l ≤ 64 := by omega
  have HFF := Lib.hid hf
  have H0 := Lib.hid h0
  clear hf h0
  clear hG hs h64 htk
  go_enter Tryz.func24, Tryz.ntmps24
  go_wp2_with fail
  refine calls_gen (P := fun W => Bx W w.heap.size 25 zc4 ∧ Bx W (w.heap.size + 1) 25 zc4 ∧ Below w.heap.size w W) ⟨(Bx.new w 25 zc4).alloc _, Bx.newAt (by simp) 25 zc4, ((Below.refl _ _).alloc (Nat.le_refl _) _).alloc (by simp) _⟩ ?_
  rintro W ⟨hB, hN, hF⟩
  refine (new_tr W (HG.out.below hF) HS.out HT.out).mono ?_
  rintro e w1 ⟨rb, rfl, hrb, hTR, hb⟩
  have hz := hF.size
  have hq := hB.lt
  have hq1 := hN.lt
  have hz1 := hb.size
  have HB1 := Lib.hid (hB.below hb)
  have HN1 := Lib.hid (hN.below hb)
  have HTR := Lib.hid hTR
  have HF1 := Lib.hid (hF.trans (hb.mono hF.size))
  clear hB hN hF hb hTR
  go_wp2_with fail
  refine calls_gen (P := fun W2 => PRd W2 w1.heap.size rb w.heap.size l (.good ts) ∧ Bx W2 w.heap.size 25 zc4 ∧ Bx W2 (w.heap.size + 1) 25 zc4 ∧ Below w.heap.size w W2) ⟨⟨⟨.nilIface, Bx.new w1 105 [.pointer (some ⟨rb, 0, none⟩), .int .i64 (l : Int), .nilIface], rfl⟩, HTR.out.below ((Below.refl _ _).alloc (Nat.le_refl _) _), (HG.out.below HF1.out).below ((Below.refl _ _).alloc (Nat.le_refl _) _), hl64, HLO.out, ⟨by omega, by omega⟩, by simp; have := HTR.out.ltr; omega⟩, HB1.out.alloc _, HN1.out.alloc _, HF1.out.alloc (by omega) _⟩ ?_
  rintro W2 ⟨hM, hB, hN, hF⟩
  refine (HF0.out _ rb w.heap.size _ W2 hM).mono ?_
  rintro e w3 ⟨v3, rfl, hO3, hM3, hF3⟩
  have hz3 := hF3.size
  have hz2 := hN.lt
  have hbl : Below (w.heap.size + 2) W2 w3 := fx_low hF3 (by omega) (fun k hk => by rcases hk with rfl | rfl <;> omega)
  have HB3 := Lib.hid (hB.low hbl (by omega))
  have HN3 := Lib.hid (hN.low hbl (by omega))
  have HM3 := Lib.hid hM3
  have HO3 := Lib.hid hO3
  have HF3 := Lib.hid (hF.trans (hbl.mono (by omega)))
  clear hM hB hN hF hO3 hM3 hF3 hbl
  go_wp2_with fail
  refine calls_gen (P := fun W3 => PRd W3 w1.heap.size rb w.heap.size l (formS (dq l) (.good ts)).2 ∧ Bx W3 w.heap.size 25 zc4 ∧ Bx W3 (w.heap.size + 1) 25 zc4 ∧ Bx W3 w3.heap.size 25 v3.c ∧ FO W3 (W2.heap.size + 1) w3.heap.size (formS (dq l) (.good ts)).1 v3 ∧ Below w.heap.size w W3) ⟨HM3.out.alloc _, HB3.out.alloc _, HN3.out.alloc _, Bx.new w3 25 v3.c, HO3.out.alloc _, HF3.out.alloc (by omega) _⟩ ?_
  rintro W3 ⟨hM, hB, hN, hE, hO, hF⟩
  refine (pisend_any W3 hM).mono ?_
  rintro e w4 ⟨rfl, hb4⟩
  rw [HFF.out] at hM hO
  rw [show decide ((formS (dq l) (.good ts)).2.hd.kind = 0) = false by rw [HFF.out]; exact decide_eq_false H0.out]
  have hB4 := hB.below hb4
  have hN4 := hN.below hb4
  have hM4 := hM.below hb4
  have hF4 := hF.trans (hb4.mono hF.size)
  clear hM hB hN hE hO hF hb4
  have HB4 := Lib.hid hB4
  have HN4 := Lib.hid hN4
  have HM4 := Lib.hid hM4
  have HF4 := Lib.hid hF4
  have hl0 := hB4.lt
  have hl00 := hN4.lt
  clear hB4 hN4 hM4 hF4
  go_wp2_with fail
  refine (prefuse_any w4 HM4.out).mono ?_
  rintro e w5 ⟨rfl, hM5, hX5⟩
  have hbl : Below (w.heap.size + 2) w4 w5 := fx_low hX5 (by omega) (fun k hk => by rcases hk with rfl | rfl <;> omega)
  have hB5 := HB4.out.low hbl (by omega)
  have hN5 := HN4.out.low hbl (by omega)
  have hF5 := HF4.out.trans (hbl.mono (by omega))
  clear hX5 hbl
  obtain ⟨vv, c0, c1, c2, z0, z2, eb, rfl, hA⟩ := hM5.cells
  have hx5 := hM5.ltx
  obtain ⟨b0, b1, b2, b3⟩ := Bx.cells4 hB5
  obtain ⟨y0, y1, y2, y3⟩ := Bx.frozen4 hB5
  obtain ⟨n0, n1, n2, n3⟩ := Bx.cells4 hN5
  have hl1 := hB5.lt
  have hl2 := hN5.lt
  have heb : eb ≠ w.heap.size := by
    rintro rfl
    obtain ⟨cs, ht⟩ := hA.typ
    have hq5 : _ = _ := hB5
    rw [hq5] at ht
    injection ht with ht
    injection ht with _ ht
    exact absurd ht (by decide)
  have HB5 := Lib.hid hB5
  have HA := Lib.hid hA
  have HF5 := Lib.hid hF5
  clear hA hM5 hB5 hN5 hF5
  go_wp2
  go_region
  all_goals
    go_wp2
    obtain ⟨d0, d1, d2, d3⟩ := (Bx.set4 (x0 := .string ⟨#[]⟩) (x1 := .string ⟨#[]⟩) (x2 := .slice none 0 0) (x3 := .int .i64 0) HB5.out).cells4
    refine bodyPost_ret (v := .tuple #[.agg #[.string ⟨#[]⟩, .string ⟨#[]⟩, .slice none 0 0, .int .i64 0], .iface 79 (.pointer (some ⟨eb, 0, none⟩))]) (by simp [results, Tryz.results24, go_sem, d0, d1, d2, d3]) rfl ⟨eb, rfl, ?_, ?_⟩
    · exact (HA.out.far4 heb).below (Below.refl _ _).drew
    · exact (below_set4 HF5.out (Nat.le_refl _)).drew
theorem preadf_any {s : ByteArray} {D : Nat} (w : World) (hG : GlobS w) (hs : s.size ≤ 65536) (h1 : 1 ≤ D) (h64 : D ≤ 64) : Calls Tryz.prog 24 #[.string s, .int .i64 (D : Int), .func (.func 25) #[] #[]] w (PFQ (parseF D s.data.toList) w) := by
  obtain ⟨l, rfl⟩ : ∃ l, D = l + 1 := ⟨D - 1, by omega⟩
  cases htk : toks s.data.toList with
  | error x =>
    obtain ⟨c, p⟩ := x
    rw [show parseF (l + 1) s.data.toList = .er c p by rw [parseF, htk]]
    exact preadf_er w hG hs h64 htk
  | ok ts =>
    have e : parseF (l + 1) s.data.toList = endF (formS (dq l) (.good ts)) := by rw [parseF, htk]; show endF ((dq (l + 1)).f (.good ts)) = _; rw [show (dq (l + 1)).f = formS (dq l) by rw [dq]]
    rw [e]
    cases hr : formS (dq l) (.good ts) with
    | mk o st =>
      cases st with
      | bad c p => exact preadf_bad hr w hG hs h64 htk
      | good us =>
        by_cases h0 : (hd us).kind = 0
        · obtain ⟨f, hf⟩ := (rok_all (rok_dq l)).f.some_ (.good ts) us (by rw [hr])
          rw [hr] at hf
          obtain rfl : o = some f := hf
          rw [show endF (some f, St.good us) = .ok f by simp [endF, h0]]
          exact preadf_ok hr h0 w hG hs h64 htk
        · rw [show endF (o, St.good us) = .er 20 (hd us).pos by simp [endF, h0]]
          exact preadf_tail hr h0 w hG hs h64 htk
theorem PFQ.form {res : FP} {w w' : World} {e : Ending} (h : PFQ res w e w') : ∃ (v : FV) (err : Value), e = .returned (.tuple #[.agg #[.string v.o, .string v.nm, .slice v.A v.ll v.cap, .int .i64 v.p], err]) := by
  cases res with
  | ok f => obtain ⟨v, h1, _⟩ := h; exact ⟨v, _, h1⟩
  | er c p => obtain ⟨b, h1, _⟩ := h; exact ⟨fv0, _, h1⟩
set_option maxHeartbeats 1000000 in
theorem pparse_any {s : ByteArray} {D : Nat} (w : World) (hG : GlobS w) (hs : s.size ≤ 65536) (h1 : 1 ≤ D) (h64 : D ≤ 64) : Calls Tryz.prog 7 #[.string s, .int .i64 (D : Int)] w (PFQ (parseF D s.data.toList) w) := by
  have HH := Lib.hid (fun (W : World) (hW : Below w.heap.size w W) => preadf_any W (hG.below hW) hs h1 h64)
  obtain ⟨res, hres⟩ : ∃ res, res = parseF D s.data.toList := ⟨_, rfl⟩
  rw [← hres] at HH ⊢
  clear hG hs h1 h64 hres
  go_enter Tryz.func7, Tryz.ntmps7
  go_wp2_with fail
  refine calls_gen (P := fun W => Bx W w.heap.size 25 zc4 ∧ Below w.heap.size w W) ⟨Bx.new w 25 zc4, (Below.refl _ _).alloc (Nat.le_refl _) _⟩ ?_
  rintro W ⟨hB, hF⟩
  refine (HH.out W hF).mono ?_
  intro e w1 hp
  have hz := hB.lt
  have hz1 := hF.size
  cases res with
  | ok f =>
    obtain ⟨v, rfl, hO, hb⟩ := hp
    have hB1 := hB.below hb
    obtain ⟨b0, b1, b2, b3⟩ := Bx.cells4 hB1
    obtain ⟨y0, y1, y2, y3⟩ := Bx.frozen4 hB1
    have hl1 := hB1.lt
    have HB1 := Lib.hid hB1
    have HO := Lib.hid hO
    have HF := Lib.hid (hF.trans (hb.mono hF.size))
    clear hB hF hb hO hB1
    go_wp2
    obtain ⟨d0, d1, d2, d3⟩ := (Bx.set4 (x0 := .string v.o) (x1 := .string v.nm) (x2 := .slice v.A v.ll v.cap) (x3 := .int .i64 v.p) HB1.out).cells4
    refine bodyPost_ret (v := .tuple #[.agg #[.string v.o, .string v.nm, .slice v.A v.ll v.cap, .int .i64 v.p], .nilIface]) (by simp [results, Tryz.results7, go_sem, d0, d1, d2, d3]) rfl ⟨v, rfl, ?_, ?_⟩
    · exact (HO.out.set4 (.inl (by omega))).mono (by omega) (by simp)
    · exact below_set4 HF.out (Nat.le_refl _)
  | er c p =>
    obtain ⟨b, rfl, hA, hb⟩ := hp
    have hB1 := hB.below hb
    obtain ⟨b0, b1, b2, b3⟩ := Bx.cells4 hB1
    obtain ⟨y0, y1, y2, y3⟩ := Bx.frozen4 hB1
    have hl1 := hB1.lt
    have heb : b ≠ w.heap.size := by
      rintro rfl
      obtain ⟨cs, ht⟩ := hA.typ
      have hq5 : _ = _ := hB1
      rw [hq5] at ht
      injection ht with ht
      injection ht with _ ht
      exact absurd ht (by decide)
    have HB1 := Lib.hid hB1
    have HA := Lib.hid hA
    have HF := Lib.hid (hF.trans (hb.mono hF.size))
    clear hB hF hb hA hB1
    go_wp2
    obtain ⟨d0, d1, d2, d3⟩ := (Bx.set4 (x0 := .string ⟨#[]⟩) (x1 := .string ⟨#[]⟩) (x2 := .slice none 0 0) (x3 := .int .i64 0) HB1.out).cells4
    refine bodyPost_ret (v := .tuple #[.agg #[.string ⟨#[]⟩, .string ⟨#[]⟩, .slice none 0 0, .int .i64 0], .iface 79 (.pointer (some ⟨b, 0, none⟩))]) (by simp [results, Tryz.results7, go_sem, d0, d1, d2, d3]) rfl ⟨b, rfl, ?_, ?_⟩
    · exact HA.out.far4 heb
    · exact below_set4 HF.out (Nat.le_refl _)
end Go.Proofs.YtjhicgllofjpoaaGreatDoor
