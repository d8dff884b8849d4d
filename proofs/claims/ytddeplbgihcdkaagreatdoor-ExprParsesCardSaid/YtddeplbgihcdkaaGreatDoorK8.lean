/-
  ExprParses, walked.
-/
import Derived.Test.YtddeplbgihcdkaaGreatDoorDf
import Derived.Test.YtddeplbgihcdkaaGreatDoorDh
import Derived.Test.YtddeplbgihcdkaaGreatDoorKV
import Derived.Test.YtddeplbgihcdkaaGreatDoorQW
import Derived.Test.YtddeplbgihcdkaaGreatDoorSZ
import Derived.Deep.RegionHeld3
import Derived.Laws.Small
namespace Go.Proofs.YtddeplbgihcdkaaGreatDoor
open Go.RowKit Go.Sort

set_option maxRecDepth 100000 in
theorem parses_long (s : ByteArray) (d : Int) (w : World) (hG : GlobT w) (hs : s.size ≤ 140737488355328) (h : 3000 < s.size) : Calls Tryz.prog 8 #[.string s, .int .i64 d] w (LawF w) := by
  have H0 := Lib.hid (alive_yes w hG)
  have g1 : decide (3000 < (s.size : Int)) = true := by simp; omega
  clear hG h
  go_enter Tryz.func8, Tryz.ntmps8
  go_wp2_with fail
  with_reducible refine (H0.out).mono ?_
  rintro e w1 ⟨rfl, hb1⟩
  go_wp2
  go_ret
  exact ⟨rfl, hb1⟩
set_option maxHeartbeats 2000000 in
set_option maxRecDepth 100000 in
theorem parses_bad (s : ByteArray) (d : Int) (w : World) (hG : GlobT w) (h : s.size ≤ 3000) (hd : d < 1 ∨ 64 < d) : Calls Tryz.prog 8 #[.string s, .int .i64 d] w (LawF w) := by
  have H0 := Lib.hid (alive_yes w hG)
  have g1 : decide (3000 < (s.size : Int)) = false := by simp; omega
  have HN := Lib.hid (fun (W : World) (hW : GlobT W) => num_errno 1 W hW.s.glob)
  have HP := Lib.hid (fun (W : World) (hW : GlobT W) => pos_errno 1 W hW.s.glob)
  have HA := Lib.hid (fun W : World => parse_bad s d W hd)
  have HB := Lib.hid (fun W : World => rparse_bad s d W hd)
  have HG := Lib.hid hG
  clear hG hd
  go_enter Tryz.func8, Tryz.ntmps8
  go_wp2_with fail
  with_reducible refine (H0.out).mono ?_
  rintro e w1 ⟨rfl, hb1⟩
  have HB1 := Lib.hid hb1
  clear hb1
  go_wp2_with fail
  refine (HA.out w1).mono ?_
  rintro e w4 ⟨rfl, hb4⟩
  have HB4 := Lib.hid (HB1.out.trans (hb4.mono HB1.out.size))
  clear hb4
  go_wp2_with fail
  refine calls_gen (P := fun W => Box W w4.heap.size (.string ⟨#[]⟩) (.string ⟨#[]⟩) (.int .i64 0) (.slice none 0 0) (.int .i64 0) ∧ Below w.heap.size w W) ⟨Box.new w4 _ _ _ _ _, HB4.out.alloc HB4.out.size _⟩ ?_
  rintro W ⟨hX, hB⟩
  refine (HB.out W).mono ?_
  rintro e w5 ⟨rfl, hb5⟩
  have HX5 := Lib.hid (hX.below hb5)
  have HB5 := Lib.hid (hB.trans (hb5.mono hB.size))
  clear hX hB hb5
  go_wp2_with fail
  refine calls_gen (P := fun W => Box W w4.heap.size (.string ⟨#[]⟩) (.string ⟨#[]⟩) (.int .i64 0) (.slice none 0 0) (.int .i64 0) ∧ Below w.heap.size w W) ⟨HX5.out.alloc _, HB5.out.alloc HB5.out.size _⟩ ?_
  rintro W ⟨hX, hB⟩
  refine (HN.out W (HG.out.below hB)).mono ?_
  rintro e w6 ⟨rfl, hb6⟩
  have HX6 := Lib.hid (hX.below hb6)
  have HB6 := Lib.hid (hB.trans (hb6.mono hB.size))
  clear hX hB hb6
  go_wp2_with fail
  refine (HP.out w6 (HG.out.below HB6.out)).mono ?_
  rintro e w7 ⟨rfl, hb7⟩
  have HX7 := Lib.hid (HX6.out.below hb7)
  have HB7 := Lib.hid (HB6.out.trans (hb7.mono HB6.out.size))
  obtain ⟨b0, b1, b2, b3, b4⟩ := HX7.out.cells
  have hbl := HX7.out.lt
  clear hb7
  go_wp2
  go_ret
  exact ⟨rfl, HB7.out⟩
set_option maxHeartbeats 2000000 in
set_option maxRecDepth 100000 in
theorem parses_er (s : ByteArray) (D c q : Nat) (w : World) (hG : GlobT w) (h : s.size ≤ 3000) (h1 : 1 ≤ D) (h64 : D ≤ 64) (hp : parseX D s.data.toList = .er c q) : Calls Tryz.prog 8 #[.string s, .int .i64 (D : Int)] w (LawF w) := by
  have H0 := Lib.hid (alive_yes w hG)
  have g1 : decide (3000 < (s.size : Int)) = false := by simp; omega
  have g3 : (((c : Nat) : Int) != (c : Int)) = false := by simp
  have g4 : (((q : Nat) : Int) != (q : Int)) = false := by simp
  have HA := Lib.hid (fun (W : World) (hW : GlobT W) => parse_any (s := s) (D := D) W hW.s (by omega) h1 h64)
  have HB := Lib.hid (fun (W : World) => rparse_any (s := s) (D := D) W (by omega) h1 h64)
  rw [hp] at HA HB
  have HG := Lib.hid hG
  clear hG hp
  go_enter Tryz.func8, Tryz.ntmps8
  go_wp2_with fail
  with_reducible refine (H0.out).mono ?_
  rintro e w1 ⟨rfl, hb1⟩
  have HB1 := Lib.hid hb1
  clear hb1
  go_wp2_with fail
  refine (HA.out w1 (HG.out.below HB1.out)).mono ?_
  rintro e w4 ⟨b, rfl, hbb, hA, hb4⟩
  have HB4 := Lib.hid (HB1.out.trans (hb4.mono HB1.out.size))
  have HAE := Lib.hid hA
  clear hb4 hA hbb
  go_wp2_with fail
  refine calls_gen (P := fun W => Box W w4.heap.size (.string ⟨#[]⟩) (.string ⟨#[]⟩) (.int .i64 0) (.slice none 0 0) (.int .i64 0) ∧ AtE W b q c ∧ Below w.heap.size w W) ⟨Box.new w4 _ _ _ _ _, HAE.out.alloc _, HB4.out.alloc HB4.out.size _⟩ ?_
  rintro W ⟨hX, hA, hB⟩
  refine (HB.out W).mono ?_
  rintro e w5 ⟨rfl, hb5, hc0⟩
  have g2 : (((c : Nat) : Int) != 0) = true := by rw [bne_iff_ne]; omega
  clear hc0
  have HX5 := Lib.hid (hX.below hb5)
  have HA5 := Lib.hid (hA.below hb5)
  have HB5 := Lib.hid (hB.trans (hb5.mono hB.size))
  clear hX hA hB hb5
  go_wp2_with fail
  refine calls_gen (P := fun W => Box W w4.heap.size (.string ⟨#[]⟩) (.string ⟨#[]⟩) (.int .i64 0) (.slice none 0 0) (.int .i64 0) ∧ AtE W b q c ∧ Below w.heap.size w W) ⟨HX5.out.alloc _, HA5.out.alloc _, HB5.out.alloc HB5.out.size _⟩ ?_
  rintro W ⟨hX, hA, hB⟩
  refine (num_at b q c W (HG.out.below hB).s.glob hA).mono ?_
  rintro e w6 ⟨rfl, hb6⟩
  have HX6 := Lib.hid (hX.below hb6)
  have HA6 := Lib.hid (hA.below hb6)
  have HB6 := Lib.hid (hB.trans (hb6.mono hB.size))
  clear hX hA hB hb6
  go_wp2_with fail
  refine (pos_at b q c w6 (HG.out.below HB6.out).s.glob HA6.out).mono ?_
  rintro e w7 ⟨rfl, hb7⟩
  have HX7 := Lib.hid (HX6.out.below hb7)
  have HB7 := Lib.hid (HB6.out.trans (hb7.mono HB6.out.size))
  obtain ⟨b0, b1, b2, b3, b4⟩ := HX7.out.cells
  have hbl := HX7.out.lt
  clear hb7
  go_wp2
  go_ret
  exact ⟨rfl, HB7.out⟩
/-- What holds of the expression. -/
structure Fx8 (x : Ex) : Prop where
  ok : Ok x
  pb : ∃ B, B < 9223372036854775808 ∧ PosB B x
  ln : (shw x).length ≤ 1000000
  sl : (shp x).length ≤ 1000000
  sz : x.size ≤ 1000000
/-- What the last line reads. -/
structure Mem8 (w W : World) (bE bM : Nat) (vE vM : XV) (x : Ex) (SE SM : Nat → Prop) : Prop where
  e : At5 W bE 0 vE x SE
  m : BoxR W bM (.string vM.o) (.string vM.nm) (.int .i64 vM.n) (.slice vM.A vM.ll vM.cap) (.int .i64 vM.p)
  h : HS W 70 SM x (exC vM.o vM.nm vM.n vM.A vM.ll vM.cap vM.p)
  t : Tabs W
  b : Below w.heap.size w W
section
variable {w W W' : World} {bE bM : Nat} {vE vM : XV} {x : Ex} {SE SM : Nat → Prop}
theorem Mem8.below (k : Mem8 w W bE bM vE vM x SE SM) (hb : Below W.heap.size W W') : Mem8 w W' bE bM vE vM x SE SM := ⟨k.e.below hb, k.m.below hb, k.h.below hb, tabs_on k.t hb, k.b.trans (hb.mono k.b.size)⟩
theorem Mem8.drew (k : Mem8 w W bE bM vE vM x SE SM) : Mem8 w W.drew bE bM vE vM x SE SM := k.below (Below.refl _ _).drew
theorem Mem8.get (k : Mem8 w W bE bM vE vM x SE SM) : (fun w' : World => w'.cell? ⟨bE, 0, none⟩ = some (.string vE.o) ∧ w'.cell? ⟨bE, 1, none⟩ = some (.string vE.nm) ∧ w'.cell? ⟨bE, 2, none⟩ = some (.int .i64 vE.n) ∧ w'.cell? ⟨bE, 3, none⟩ = some (.slice vE.A vE.ll vE.cap) ∧ w'.cell? ⟨bE, 4, none⟩ = some (.int .i64 vE.p) ∧ w'.cell? ⟨bM, 0, none⟩ = some (.string vM.o) ∧ w'.cell? ⟨bM, 1, none⟩ = some (.string vM.nm) ∧ w'.cell? ⟨bM, 2, none⟩ = some (.int .i64 vM.n) ∧ w'.cell? ⟨bM, 3, none⟩ = some (.slice vM.A vM.ll vM.cap) ∧ w'.cell? ⟨bM, 4, none⟩ = some (.int .i64 vM.p)) W := by
  obtain ⟨_, e0, e1, e2, e3, e4, _⟩ := k.e
  obtain ⟨y0, y1, y2, y3, y4⟩ := k.m.cells
  exact ⟨e0, e1, e2, e3, e4, y0, y1, y2, y3, y4⟩
def Mem8P (w : World) (bE bM : Nat) (vE vM : XV) (x : Ex) (SE SM : Nat → Prop) (v : Value) (e : Ending) (w' : World) : Prop := e = .returned v ∧ Mem8 w w' bE bM vE vM x SE SM
def To8 (w : World) (bE bM : Nat) (vE vM : XV) (x : Ex) (SE SM : Nat → Prop) (e : Ending) (w' : World) : Prop := ∃ o nm n A l cap p, e = .returned (.agg #[.string o, .string nm, .int .i64 n, .slice A l cap, .int .i64 p]) ∧ HS w' 70 (fun j => j < w'.heap.size) x (exC o nm n A l cap p) ∧ Mem8 w w' bE bM vE vM x SE SM
theorem Mem8.to (k : Mem8 w W bE bM vE vM x SE SM) : Calls Tryz.prog 37 #[.agg #[.string vE.o, .string vE.nm, .int .i64 vE.n, .slice vE.A vE.ll vE.cap, .int .i64 vE.p]] W (To8 w bE bM vE vM x SE SM) :=
  (to_any x W _ _ k.e.hs).mono fun _ _ ⟨o, nm, n, A, l, cap, p, h1, hC, h2⟩ => ⟨o, nm, n, A, l, cap, p, h1, hC.wide (fun _ _ hj => hj.2), k.below h2⟩
theorem Mem8.shape (k : Mem8 w W bE bM vE vM x SE SM) (F : Fx8 x) {Z : Nat → Prop} {o nm : ByteArray} {n : Int} {A : Option Addr} {l cap : Nat} {p : Int} (hH : HS W 70 Z x (exC o nm n A l cap p)) {t : ByteArray} (ht : t.data.toList = shp x) : Calls Tryz.prog 39 #[.agg #[.string o, .string nm, .int .i64 n, .slice A l cap, .int .i64 p]] W (Mem8P w bE bM vE vM x SE SM (.string t)) := by
  obtain ⟨B, hB, hp⟩ := F.pb
  exact (shape_any hB x F.ok hp W Z _ hH F.sl).mono fun _ _ ⟨h1, h2⟩ => ⟨by rw [h1, strV_eq ht], k.below h2⟩
theorem Mem8.rprint (k : Mem8 w W bE bM vE vM x SE SM) (F : Fx8 x) {t : ByteArray} (ht : t.data.toList = shw x) : Calls Tryz.prog 36 #[.agg #[.string vM.o, .string vM.nm, .int .i64 vM.n, .slice vM.A vM.ll vM.cap, .int .i64 vM.p]] W (Mem8P w bE bM vE vM x SE SM (.string t)) :=
  (pr_any x F.ok W SM _ k.h F.ln).mono fun _ _ ⟨h1, h2⟩ => ⟨by rw [h1, strV_eq ht], k.below h2⟩
theorem Mem8.print (k : Mem8 w W bE bM vE vM x SE SM) (F : Fx8 x) {t : ByteArray} (ht : t.data.toList = shw x) : Calls Tryz.prog 40 #[.agg #[.string vE.o, .string vE.nm, .int .i64 vE.n, .slice vE.A vE.ll vE.cap, .int .i64 vE.p]] W (Mem8P w bE bM vE vM x SE SM (.string t)) :=
  (print_any F.ok W k.e.hs k.t F.ln).mono fun _ _ ⟨h1, h2⟩ => ⟨by rw [h1, strV_eq ht]; rfl, k.below h2⟩
theorem Mem8.size (k : Mem8 w W bE bM vE vM x SE SM) {z : Int} (hz : ((min x.size 4097 : Nat) : Int) = z) : Calls Tryz.prog 41 #[.agg #[.string vE.o, .string vE.nm, .int .i64 vE.n, .slice vE.A vE.ll vE.cap, .int .i64 vE.p]] W (Mem8P w bE bM vE vM x SE SM (.int .i64 z)) :=
  (size_any W k.e.hs).mono fun _ _ ⟨h1, h2⟩ => ⟨by rw [h1, hz], k.below h2⟩
theorem Mem8.rsize (k : Mem8 w W bE bM vE vM x SE SM) (F : Fx8 x) {z : Int} (hz : (x.size : Int) = z) : Calls Tryz.prog 42 #[.agg #[.string vM.o, .string vM.nm, .int .i64 vM.n, .slice vM.A vM.ll vM.cap, .int .i64 vM.p]] W (Mem8P w bE bM vE vM x SE SM (.int .i64 z)) :=
  (rsize_any x F.sz W SM _ k.h).mono fun _ _ ⟨h1, h2⟩ => ⟨by rw [h1, hz], k.below h2⟩
end
set_option maxHeartbeats 4000000 in
set_option maxRecDepth 100000 in
theorem parses_ok (s : ByteArray) (D : Nat) (w : World) (hG : GlobT w) (h : s.size ≤ 3000) (h1 : 1 ≤ D) (h64 : D ≤ 64) {x : Ex} {r : List Tok} (hp : parseX D s.data.toList = .ok x r) : Calls Tryz.prog 8 #[.string s, .int .i64 (D : Int)] w (LawF w) := by
  have H0 := Lib.hid (alive_yes w hG)
  have g1 : decide (3000 < (s.size : Int)) = false := by simp; omega
  have hsl : s.data.toList.length = s.size := by simp
  have hgood := parse_good (by omega) hp
  have hln := shw_len (by omega) hp
  have hpb := parse_pos hp
  rw [hsl] at hln hpb
  have hsz := size_shw x hgood.1
  have hsh := shp_len (B := s.size) (by omega) x hgood.1 hpb
  have FX := Lib.hid (show Fx8 x from ⟨hgood.1, ⟨_, by omega, hpb⟩, by omega, by omega, by omega⟩)
  have HA := Lib.hid (fun (W : World) (hW : GlobT W) => parse_any (s := s) (D := D) W hW.s (by omega) h1 h64)
  have HB := Lib.hid (fun (W : World) => rparse_any (s := s) (D := D) W (by omega) h1 h64)
  rw [hp] at HA HB
  obtain ⟨tp, htp, _⟩ := str_of (shp x) 1000000 FX.out.sl
  obtain ⟨tw, htw, _⟩ := str_of (shw x) 1000000 FX.out.ln
  have HTP := Lib.hid htp
  have HTW := Lib.hid htw
  have g5 : (tp.toList == tp.toList) = true := by simp
  have g6 : (tw.toList == tw.toList) = true := by simp
  have HG := Lib.hid hG
  clear hG hp hgood hln hpb hsz hsh hsl htp htw
  go_enter Tryz.func8, Tryz.ntmps8
  go_wp2_with fail
  with_reducible refine (H0.out).mono ?_
  rintro e w1 ⟨rfl, hb1⟩
  have HB1 := Lib.hid hb1
  clear hb1
  go_wp2_with fail
  refine (HA.out w1 (HG.out.below HB1.out)).mono ?_
  rintro e w4 ⟨o4, nm4, n4, A4, l4, cap4, p4, rfl, hC, hb4⟩
  have HB4 := Lib.hid (HB1.out.trans (hb4.mono HB1.out.size))
  have HC4 := Lib.hid (hC.wide (T := fun j => j < w4.heap.size) (fun _ _ hj => hj.2))
  clear hb4 hC
  go_wp2_with fail
  refine calls_gen (P := fun W => At5 W w4.heap.size 0 ⟨o4, nm4, n4, A4, l4, cap4, p4⟩ x (fun j => j < w4.heap.size) ∧ Below w.heap.size w W) ⟨(Box.new w4 _ _ _ _ _).at5 (v := ⟨o4, nm4, n4, A4, l4, cap4, p4⟩) (HC4.out.alloc _), HB4.out.alloc HB4.out.size _⟩ ?_
  rintro W ⟨hE, hB⟩
  refine (HB.out W).mono ?_
  rintro e w5 ⟨o5, nm5, n5, A5, l5, cap5, p5, rfl, hC, hb5⟩
  have HE5 := Lib.hid (hE.below hb5)
  have HC5 := Lib.hid (hC.wide (T := fun j => j < w5.heap.size) (fun _ _ hj => hj.2))
  have HB5 := Lib.hid (hB.trans (hb5.mono hB.size))
  clear hE hC hB hb5
  have hba := HB5.out.alloc HB5.out.size (.cells #[.string o5, .string nm5, .int .i64 n5, .slice A5 l5 cap5, .int .i64 p5] 70)
  have LK := Lib.hid (show Mem8 w (w5.alloc (.cells #[.string o5, .string nm5, .int .i64 n5, .slice A5 l5 cap5, .int .i64 p5] 70)) w4.heap.size w5.heap.size ⟨o4, nm4, n4, A4, l4, cap4, p4⟩ ⟨o5, nm5, n5, A5, l5, cap5, p5⟩ x _ _ from
    ⟨HE5.out.below ((Below.refl _ _).alloc (Nat.le_refl _) _), BoxR.new w5 _ _ _ _ _, HC5.out.alloc _, (HG.out.below hba).t, hba⟩)
  clear hba HE5 HC5 HB5 HC4 HB4
  go_wp2_with fail
  refine calls_gen (P := fun W => Mem8 w W w4.heap.size w5.heap.size ⟨o4, nm4, n4, A4, l4, cap4, p4⟩ ⟨o5, nm5, n5, A5, l5, cap5, p5⟩ x _ _) LK.out ?_
  rintro W lk
  refine (num_nil2 W).mono ?_
  rintro e _ ⟨rfl, rfl⟩
  go_wp2_with fail
  refine (pos_nil W).mono ?_
  rintro e w6 ⟨rfl, hb6⟩
  replace lk := lk.below hb6
  clear hb6 LK
  go_wp2_with fail
  generalize w5.heap.size = bM at lk ⊢
  generalize w4.heap.size = bE at lk ⊢
  generalize (⟨o4, nm4, n4, A4, l4, cap4, p4⟩ : XV) = vE at lk ⊢
  generalize (⟨o5, nm5, n5, A5, l5, cap5, p5⟩ : XV) = vM at lk ⊢
  obtain ⟨zn, hzn⟩ : ∃ z : Int, (x.size : Int) = z := ⟨_, rfl⟩
  obtain ⟨zm, hzm⟩ : ∃ z : Int, ((min x.size 4097 : Nat) : Int) = z := ⟨_, rfl⟩
  have gm : min zn 4097 = zm := by rw [← hzn, ← hzm]; omega
  have HZN := Lib.hid hzn
  have HZM := Lib.hid hzm
  clear hzn hzm
  have g7 : (zm == min zn 4097) = true := by rw [gm]; simp
  clear gm
  replace lk := lk.drew
  go_region_held3 (fun w' => w'.cell? ⟨bE, 0, none⟩ = some (.string vE.o) ∧ w'.cell? ⟨bE, 1, none⟩ = some (.string vE.nm) ∧ w'.cell? ⟨bE, 2, none⟩ = some (.int .i64 vE.n) ∧ w'.cell? ⟨bE, 3, none⟩ = some (.slice vE.A vE.ll vE.cap) ∧ w'.cell? ⟨bE, 4, none⟩ = some (.int .i64 vE.p) ∧ w'.cell? ⟨bM, 0, none⟩ = some (.string vM.o) ∧ w'.cell? ⟨bM, 1, none⟩ = some (.string vM.nm) ∧ w'.cell? ⟨bM, 2, none⟩ = some (.int .i64 vM.n) ∧ w'.cell? ⟨bM, 3, none⟩ = some (.slice vM.A vM.ll vM.cap) ∧ w'.cell? ⟨bM, 4, none⟩ = some (.int .i64 vM.p)) (exact lk.get) (first
    | (go_at_call 37; (with_reducible refine (lk.to).mono ?_); rintro e wA ⟨o7, nm7, n7, A7, l7, cap7, p7, rfl, tX, lk2⟩; replace lk := lk2; clear lk2)
    | (go_at_call 39; (with_reducible refine (lk.shape FX.out tX HTP.out).mono ?_); rintro e wA ⟨rfl, lk2⟩; replace lk := lk2; clear lk2 tX)
    | (go_at_call 39; (with_reducible refine (lk.shape FX.out lk.h HTP.out).mono ?_); rintro e wA ⟨rfl, lk2⟩; replace lk := lk2; clear lk2)
    | (go_at_call 40; (with_reducible refine (lk.print FX.out HTW.out).mono ?_); rintro e wA ⟨rfl, lk2⟩; replace lk := lk2; clear lk2)
    | (go_at_call 36; (with_reducible refine (lk.rprint FX.out HTW.out).mono ?_); rintro e wA ⟨rfl, lk2⟩; replace lk := lk2; clear lk2)
    | (go_at_call 41; (with_reducible refine (lk.size HZM.out).mono ?_); rintro e wA ⟨rfl, lk2⟩; replace lk := lk2; clear lk2)
    | (go_at_call 42; (with_reducible refine (lk.rsize FX.out HZN.out).mono ?_); rintro e wA ⟨rfl, lk2⟩; replace lk := lk2; clear lk2))
  all_goals go_wp2
  all_goals go_ret
  all_goals exact ⟨rfl, lk.b⟩
theorem parses_yes (s : ByteArray) (d : Int) (w : World) (hG : GlobT w) (hs : s.size ≤ 140737488355328) : Calls Tryz.prog 8 #[.string s, .int .i64 d] w (LawF w) := by
  by_cases h : 3000 < s.size
  · exact parses_long s d w hG hs h
  · by_cases hd : d < 1 ∨ 64 < d
    · exact parses_bad s d w hG (by omega) hd
    · obtain ⟨D, rfl⟩ : ∃ D : Nat, d = (D : Int) := ⟨d.toNat, by omega⟩
      cases hp : parseX D s.data.toList with
      | er c q => exact parses_er s D c q w hG (by omega) (by omega) (by omega) hp
      | ok x r => exact parses_ok s D w hG (by omega) (by omega) (by omega) hp
end Go.Proofs.YtddeplbgihcdkaaGreatDoor
