/-
  ModelBack, walked.
-/
import Derived.Test.YtodijgndbjfbgaaGreatDoorTn
import Derived.Test.YtodijgndbjfbgaaGreatDoorTb
namespace Go.Proofs.YtodijgndbjfbgaaGreatDoor
open Go.RowKit Go.Sort

theorem mprint_x {d : MdlO} (hok : MdOk d) {b : Nat} {v : MdV} (w : World) (h : MdR w b d v) (hT : Tabs w) : Calls Tryz.prog 13 #[.agg #[.slice v.A1 d.consts.length v.c1, .slice v.A2 d.formulas.length v.c2, .slice v.A3 d.labels.length v.c3, .slice v.A4 d.mods.length v.c4]] w (TlP (tlM d) w) := mprint_any hok w h hT
theorem mback_long (s : ByteArray) (d : Int) (w : World) (hG : GlobT w) (hs : s.size ≤ 140737488355328) (h : 3000 < s.size) : Calls Tryz.prog 4 #[.string s, .int .i64 d] w (LawF w) := by
  have H0 := Lib.hid (malive_yes w hG)
  have g1 : decide (3000 < (s.size : Int)) = true := by simp; omega
  have g1' : decide (3000 < s.size) = true := by simp; omega
  clear hG h
  go_enter Tryz.func4, Tryz.ntmps4
  go_wp2_with fail
  with_reducible refine (H0.out).mono ?_
  rintro e w1 ⟨rfl, hb1⟩
  go_wp2
  go_ret
  exact ⟨rfl, hb1⟩
set_option maxHeartbeats 2000000 in
theorem mback_bad (s : ByteArray) (d : Int) (w : World) (hG : GlobT w) (h : s.size ≤ 3000) (hd : d < 1 ∨ 64 < d) : Calls Tryz.prog 4 #[.string s, .int .i64 d] w (LawF w) := by
  have H0 := Lib.hid (malive_yes w hG)
  have g1 : decide (3000 < (s.size : Int)) = false := by simp; omega
  have g1' : decide (3000 < s.size) = false := by simp; omega
  have H3 := Lib.hid (fun (W : World) => mparse_bad s d W hd)
  clear hG hd
  go_enter Tryz.func4, Tryz.ntmps4
  go_wp2_with fail
  with_reducible refine (H0.out).mono ?_
  rintro e w1 ⟨rfl, hb1⟩
  have HB1 := Lib.hid hb1
  clear hb1
  go_wp2_with fail
  refine (H3.out _).mono ?_
  rintro e w3 ⟨rfl, hb3⟩
  have HB3 := Lib.hid (HB1.out.trans (hb3.mono HB1.out.size))
  clear hb3
  go_wp2
  go_ret
  exact ⟨rfl, HB3.out.alloc HB3.out.size _⟩
set_option maxHeartbeats 2000000 in
theorem mback_er (s : ByteArray) (D : Nat) (w : World) (hG : GlobT w) (h : s.size ≤ 3000) (h1 : 1 ≤ D) (h64 : D ≤ 64) {c q : Nat} (hp : parseM D s.data.toList = .er c q) : Calls Tryz.prog 4 #[.string s, .int .i64 (D : Int)] w (LawF w) := by
  have H0 := Lib.hid (malive_yes w hG)
  have g1 : decide (3000 < (s.size : Int)) = false := by simp; omega
  have g1' : decide (3000 < s.size) = false := by simp; omega
  have HG := Lib.hid hG
  have H3 := Lib.hid (fun (W : World) (hW : GlobT W) => mparse_any (s := s) (D := D) W hW.s (by omega) h1 h64)
  rw [hp] at H3
  clear hG hp
  go_enter Tryz.func4, Tryz.ntmps4
  go_wp2_with fail
  with_reducible refine (H0.out).mono ?_
  rintro e w1 ⟨rfl, hb1⟩
  have HB1 := Lib.hid hb1
  clear hb1
  go_wp2_with fail
  refine (H3.out _ (HG.out.below HB1.out)).mono ?_
  rintro e w3 ⟨b3, rfl, hA, hb3⟩
  have HB3 := Lib.hid (HB1.out.trans (hb3.mono HB1.out.size))
  clear hb3 hA
  go_wp2
  go_ret
  exact ⟨rfl, HB3.out.alloc HB3.out.size _⟩
set_option maxHeartbeats 4000000 in
set_option maxRecDepth 100000 in
theorem mback_ok (s : ByteArray) (D : Nat) (w : World) (hG : GlobT w) (h : s.size ≤ 3000) (h1 : 1 ≤ D) (h64 : D ≤ 64) {m : MdlO} (hp : parseM D s.data.toList = .ok m) : Calls Tryz.prog 4 #[.string s, .int .i64 (D : Int)] w (LawF w) := by
  have H0 := Lib.hid (malive_yes w hG)
  have g1 : decide (3000 < (s.size : Int)) = false := by simp; omega
  have g1' : decide (3000 < s.size) = false := by simp; omega
  have HG := Lib.hid hG
  have ok := parse_okM (by rw [size_list]; omega) hp
  rw [size_list] at ok
  obtain ⟨m', hq, hb⟩ := parse_tlM ok.1
  obtain ⟨t, ht, hts⟩ := str_ofM (tlM m) 15000 (by have := ok.2; omega)
  have H3 := Lib.hid (fun (W : World) (hW : GlobT W) => mparse_any (s := s) (D := D) W hW.s (by omega) h1 h64)
  have H4 := Lib.hid (fun (W : World) (hW : GlobT W) => mparse_any (s := t) (D := D) W hW.s (by omega) h1 h64)
  rw [hp] at H3
  rw [ht, hq] at H4
  have ok' := parse_okM (by have := ok.2; omega) hq
  have he := tlM_same hb
  have hO : MdOk m := mdok_of ok.1 (by have := ok.2; omega)
  have hO' : MdOk m' := mdok_of ok'.1 (by rw [he]; have := ok.2; omega)
  obtain ⟨k4, k1, k3, k2⟩ := bare_lens hb
  have hl1 := hO.l1
  have hl2 := hO.l2
  have hl3 := hO.l3
  have hl4 := hO.l4
  have HO := Lib.hid hO
  have HO' := Lib.hid hO'
  have HT := Lib.hid ht
  have HT' := Lib.hid (ht.trans he.symm)
  have HK := Lib.hid (And.intro k1 (And.intro k2 (And.intro k3 k4)))
  have HK2 := HK
  clear hG hp ok hq hb ht ok' he hO hO' k1 k2 k3 k4
  go_enter Tryz.func4, Tryz.ntmps4
  go_wp2_with fail
  with_reducible refine (H0.out).mono ?_
  rintro e w1 ⟨rfl, hb1⟩
  have HB1 := Lib.hid hb1
  clear hb1
  go_wp2_with fail
  refine (H3.out _ (HG.out.below HB1.out)).mono ?_
  rintro e w3 ⟨v3, rfl, hC, hb3⟩
  have HB3 := Lib.hid (HB1.out.trans (hb3.mono HB1.out.size))
  have HX3 := Lib.hid (show Bx (w3.alloc (.cells #[.slice v3.A1 m.consts.length v3.c1, .slice v3.A2 m.formulas.length v3.c2, .slice v3.A3 m.labels.length v3.c3, .slice v3.A4 m.mods.length v3.c4] 26)) w3.heap.size 26 [.slice v3.A1 m.consts.length v3.c1, .slice v3.A2 m.formulas.length v3.c2, .slice v3.A3 m.labels.length v3.c3, .slice v3.A4 m.mods.length v3.c4] from Bx.new _ _ _)
  have HC3 := Lib.hid hC
  clear hb3 hC
  dsimp only [MdV.v1, MdV.v2, MdV.v3, MdV.v4]
  go_wp2_with fail
  refine calls_gen (P := fun W => Bx W w3.heap.size 26 [.slice v3.A1 m.consts.length v3.c1, .slice v3.A2 m.formulas.length v3.c2, .slice v3.A3 m.labels.length v3.c3, .slice v3.A4 m.mods.length v3.c4] ∧ MdR W w1.heap.size m v3 ∧ Below w.heap.size w W) ⟨HX3.out, HC3.out.belowX ((Below.refl _ _).alloc (Nat.le_refl _) _), HB3.out.alloc HB3.out.size _⟩ ?_
  rintro W ⟨hE, hE2, hB⟩
  with_reducible refine (mprint_x HO.out W hE2 (HG.out.below hB).t).mono ?_
  rintro e w4 ⟨rfl, hb4⟩
  rw [← ret_strM HT.out]
  have HE4 := Lib.hid (hE.below hb4)
  have HE5 := Lib.hid (hE2.belowX hb4)
  have HB4 := Lib.hid (hB.trans (hb4.mono hB.size))
  clear hE hE2 hB hb4 HX3 HC3 HB3
  go_wp2_with fail
  refine (H4.out _ (HG.out.below HB4.out)).mono ?_
  rintro e w5 ⟨v4, rfl, hC, hb5⟩
  have LK := Lib.hid (show Mem2 w (w5.alloc (.cells #[.slice v4.A1 m'.consts.length v4.c1, .slice v4.A2 m'.formulas.length v4.c2, .slice v4.A3 m'.labels.length v4.c3, .slice v4.A4 m'.mods.length v4.c4] 26)) w3.heap.size w5.heap.size m m' v3 v4 from
    have hB5 := HB4.out.trans (hb5.mono HB4.out.size)
    have hB6 := hB5.alloc hB5.size (.cells #[.slice v4.A1 m'.consts.length v4.c1, .slice v4.A2 m'.formulas.length v4.c2, .slice v4.A3 m'.labels.length v4.c3, .slice v4.A4 m'.mods.length v4.c4] 26)
    ⟨(HE4.out.below hb5).alloc _, Bx.new _ _ _, ⟨_, (HE5.out.belowX hb5).belowX ((Below.refl _ _).alloc (Nat.le_refl _) _)⟩, ⟨_, hC.belowX ((Below.refl _ _).alloc (Nat.le_refl _) _)⟩, HG.out.below hB6, hB6⟩)
  clear hb5 hC HE4 HE5 HB4
  dsimp only [MdV.v1, MdV.v2, MdV.v3, MdV.v4]
  go_wp2_with fail
  refine calls_gen (P := fun W => Mem2 w W w3.heap.size w5.heap.size m m' v3 v4) LK.out ?_
  rintro W lk
  with_reducible refine (lk.p4 HO'.out HT'.out).mono ?_
  rintro e wA ⟨rfl, lk2⟩
  obtain ⟨k1, k2, k3, k4⟩ := HK.out
  have a0 : wA.cell? ⟨w3.heap.size, 0, none⟩ = some (.slice v3.A1 m.consts.length v3.c1) := lk2.x3.cell 0
  have a1 : wA.cell? ⟨w3.heap.size, 1, none⟩ = some (.slice v3.A2 m.formulas.length v3.c2) := lk2.x3.cell 1
  have a2 : wA.cell? ⟨w3.heap.size, 2, none⟩ = some (.slice v3.A3 m.labels.length v3.c3) := lk2.x3.cell 2
  have a3 : wA.cell? ⟨w3.heap.size, 3, none⟩ = some (.slice v3.A4 m.mods.length v3.c4) := lk2.x3.cell 3
  have b0 : wA.cell? ⟨w5.heap.size, 0, none⟩ = some (.slice v4.A1 m'.consts.length v4.c1) := lk2.x4.cell 0
  have b1 : wA.cell? ⟨w5.heap.size, 1, none⟩ = some (.slice v4.A2 m'.formulas.length v4.c2) := lk2.x4.cell 1
  have b2 : wA.cell? ⟨w5.heap.size, 2, none⟩ = some (.slice v4.A3 m'.labels.length v4.c3) := lk2.x4.cell 2
  have b3 : wA.cell? ⟨w5.heap.size, 3, none⟩ = some (.slice v4.A4 m'.mods.length v4.c4) := lk2.x4.cell 3
  rw [k1] at b0
  rw [k2] at b1
  rw [k3] at b2
  rw [k4] at b3
  have HBW := Lib.hid lk2.b
  clear lk lk2 LK k1 k2 k3 k4 HK
  try simp only [HK2.out.1, HK2.out.2.1, HK2.out.2.2.1, HK2.out.2.2.2]
  generalize m.consts.length = l1 at *
  generalize m.formulas.length = l2 at *
  generalize m.labels.length = l3 at *
  generalize m.mods.length = l4 at *
  go_wp2
  go_ret
  exact ⟨rfl, HBW.out⟩
theorem mback_yes (s : ByteArray) (d : Int) (w : World) (hG : GlobT w) (hs : s.size ≤ 140737488355328) : Calls Tryz.prog 4 #[.string s, .int .i64 d] w (LawF w) := by
  by_cases h : 3000 < s.size
  · exact mback_long s d w hG hs h
  · by_cases hd : 1 ≤ d ∧ d ≤ 64
    · obtain ⟨D, rfl⟩ : ∃ D : Nat, d = (D : Int) := ⟨d.toNat, by omega⟩
      cases hp : parseM D s.data.toList with
      | er c q => exact mback_er s D w hG (by omega) (by omega) (by omega) hp
      | ok m => exact mback_ok s D w hG (by omega) (by omega) (by omega) hp
    · exact mback_bad s d w hG (by omega) (by omega)
end Go.Proofs.YtodijgndbjfbgaaGreatDoor
