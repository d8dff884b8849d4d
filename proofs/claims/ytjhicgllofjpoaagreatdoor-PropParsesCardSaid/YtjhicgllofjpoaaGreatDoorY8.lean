/-
  PropParses, walked.
-/
import Derived.Test.YtjhicgllofjpoaaGreatDoorYA
import Derived.Test.YtjhicgllofjpoaaGreatDoorY5
import Derived.Test.YtjhicgllofjpoaaGreatDoorY7
import Derived.Test.YtjhicgllofjpoaaGreatDoorZ4
import Derived.Test.YtjhicgllofjpoaaGreatDoorZ6
import Derived.Test.YtjhicgllofjpoaaGreatDoorZ7
import Derived.Test.YtjhicgllofjpoaaGreatDoorUC
import Derived.Test.YtjhicgllofjpoaaGreatDoorJ7
import Derived.Deep.RegionHeld3
import Derived.Laws.Small
namespace Go.Proofs.YtjhicgllofjpoaaGreatDoor
open Go.RowKit Go.Sort

set_option maxRecDepth 100000 in
theorem fparses_long (s : ByteArray) (d : Int) (w : World) (hG : GlobS w) (h : 3000 < s.size) : Calls Tryz.prog 3 #[.string s, .int .i64 d] w (LawF w) := by
  have H0 := Lib.hid (palive_yes w hG)
  have g1 : decide (3000 < (s.size : Int)) = true := by simp; omega
  clear hG h
  go_enter Tryz.func3, Tryz.ntmps3
  go_wp2_with fail
  with_reducible refine (H0.out).mono ?_
  rintro e w1 ⟨rfl, hb1⟩
  go_wp2
  go_ret
  exact ⟨rfl, hb1⟩
theorem bx_zc4 {w : World} : Bx (w.alloc (.cells #[.string ⟨#[]⟩, .string ⟨#[]⟩, .slice none 0 0, .int .i64 0] 25)) w.heap.size 25 zc4 := Bx.new w 25 zc4
set_option maxHeartbeats 4000000 in
set_option maxRecDepth 100000 in
theorem fparses_bad (s : ByteArray) (d : Int) (w : World) (hG : GlobS w) (h : s.size ≤ 3000) (hd : BadD d) : Calls Tryz.prog 3 #[.string s, .int .i64 d] w (LawF w) := by
  have H0 := Lib.hid (palive_yes w hG)
  have g1 : decide (3000 < (s.size : Int)) = false := by simp; omega
  have HN := Lib.hid (fun (W : World) (hW : GlobS W) => num_errno 1 W hW.glob)
  have HP := Lib.hid (fun (W : World) (hW : GlobS W) => pos_errno 1 W hW.glob)
  have HA := Lib.hid (fun W : World => pparse_arg (s := s) W hd)
  have HB := Lib.hid (fun W : World => rfparse_bad s d W hd)
  have HG := Lib.hid hG
  clear hG hd h
  go_enter Tryz.func3, Tryz.ntmps3
  go_wp2_with fail
  with_reducible refine (H0.out).mono ?_
  rintro e w1 ⟨rfl, hb1⟩
  have HB1 := Lib.hid hb1
  clear hb1
  go_wp2_with fail
  refine (HA.out w1).mono ?_
  rintro e w4 ⟨rfl, hb4⟩
  have HB4 := Lib.hid (HB1.out.trans (hb4.mono HB1.out.size))
  clear hb4
  go_wp2_with fail
  refine calls_gen (P := fun W => Bx W w4.heap.size 25 zc4 ∧ Below w.heap.size w W) ⟨bx_zc4, HB4.out.alloc HB4.out.size _⟩ ?_
  rintro W ⟨hX, hB⟩
  refine (HB.out W).mono ?_
  rintro e w5 ⟨rfl, hb5⟩
  have HX5 := Lib.hid (hX.below hb5)
  have HB5 := Lib.hid (hB.trans (hb5.mono hB.size))
  clear hX hB hb5
  go_wp2_with fail
  refine calls_gen (P := fun W => Bx W w4.heap.size 25 zc4 ∧ Below w.heap.size w W) ⟨HX5.out.alloc _, HB5.out.alloc HB5.out.size _⟩ ?_
  rintro W ⟨hX, hB⟩
  refine (HN.out W (HG.out.below hB)).mono ?_
  rintro e w6 ⟨rfl, hb6⟩
  have HX6 := Lib.hid (hX.below hb6)
  have HB6 := Lib.hid (hB.trans (hb6.mono hB.size))
  clear hX hB hb6
  go_wp2_with fail
  refine (HP.out w6 (HG.out.below HB6.out)).mono ?_
  rintro e w7 ⟨rfl, hb7⟩
  have HX7 := Lib.hid (HX6.out.below hb7)
  have HB7 := Lib.hid (HB6.out.trans (hb7.mono HB6.out.size))
  obtain ⟨b0, b1, b2, b3⟩ := Bx.cells4 HX7.out
  have hbl := HX7.out.lt
  clear hb7
  go_wp2
  go_ret
  exact ⟨rfl, HB7.out⟩
set_option maxHeartbeats 4000000 in
set_option maxRecDepth 100000 in
theorem fparses_er (s : ByteArray) (D c q : Nat) (w : World) (hG : GlobS w) (h : s.size ≤ 3000) (h1 : 1 ≤ D) (h64 : D ≤ 64) (hp : parseF D s.data.toList = .er c q) : Calls Tryz.prog 3 #[.string s, .int .i64 (D : Int)] w (LawF w) := by
  have H0 := Lib.hid (palive_yes w hG)
  have g1 : decide (3000 < (s.size : Int)) = false := by simp; omega
  have g3 : (((c : Nat) : Int) != (c : Int)) = false := by simp
  have g4 : (((q : Nat) : Int) != (q : Int)) = false := by simp
  have HA := Lib.hid (fun (W : World) (hW : GlobS W) => pparse_any (s := s) (D := D) W hW (by omega) h1 h64)
  have HB := Lib.hid (fun (W : World) => rfparse_any (s := s) (D := D) W (by omega) h1 h64)
  rw [hp] at HA HB
  have HG := Lib.hid hG
  clear hG hp h h1 h64
  go_enter Tryz.func3, Tryz.ntmps3
  go_wp2_with fail
  with_reducible refine (H0.out).mono ?_
  rintro e w1 ⟨rfl, hb1⟩
  have HB1 := Lib.hid hb1
  clear hb1
  go_wp2_with fail
  refine (HA.out w1 (HG.out.below HB1.out)).mono ?_
  rintro e w4 ⟨b, rfl, hA, hb4⟩
  have HB4 := Lib.hid (HB1.out.trans (hb4.mono HB1.out.size))
  have HAE := Lib.hid hA
  clear hb4 hA
  go_wp2_with fail
  refine calls_gen (P := fun W => Bx W w4.heap.size 25 zc4 ∧ AtE W b q c ∧ Below w.heap.size w W) ⟨bx_zc4, HAE.out.alloc _, HB4.out.alloc HB4.out.size _⟩ ?_
  rintro W ⟨hX, hA, hB⟩
  refine (HB.out W).mono ?_
  rintro e w5 ⟨rfl, hb5, hc0⟩
  have g2 : (((c : Nat) : Int) != 0) = true := by rw [bne_iff_ne]; omega
  clear hc0
  have HX5 := Lib.hid (hX.below hb5)
  have HA5 := Lib.hid (hA.below hb5)
  have HB5 := Lib.hid (hB.trans (hb5.mono hB.size))
  clear hX hA hB hb5
  go_wp2_with fail
  refine calls_gen (P := fun W => Bx W w4.heap.size 25 zc4 ∧ AtE W b q c ∧ Below w.heap.size w W) ⟨HX5.out.alloc _, HA5.out.alloc _, HB5.out.alloc HB5.out.size _⟩ ?_
  rintro W ⟨hX, hA, hB⟩
  refine (num_at b q c W (HG.out.below hB).glob hA).mono ?_
  rintro e w6 ⟨rfl, hb6⟩
  have HX6 := Lib.hid (hX.below hb6)
  have HA6 := Lib.hid (hA.below hb6)
  have HB6 := Lib.hid (hB.trans (hb6.mono hB.size))
  clear hX hA hB hb6
  go_wp2_with fail
  refine (pos_at b q c w6 (HG.out.below HB6.out).glob HA6.out).mono ?_
  rintro e w7 ⟨rfl, hb7⟩
  have HX7 := Lib.hid (HX6.out.below hb7)
  have HB7 := Lib.hid (HB6.out.trans (hb7.mono HB6.out.size))
  obtain ⟨b0, b1, b2, b3⟩ := Bx.cells4 HX7.out
  have hbl := HX7.out.lt
  clear hb7
  go_wp2
  go_ret
  exact ⟨rfl, HB7.out⟩
/-- What holds of the formula. -/
structure FxR (x : Fo) : Prop where
  ok : OkF x
  pb : ∃ B, B < 9223372036854775808 ∧ PosF B x
  ln : (tlF x).length ≤ 1000000
  sl : (shpF x).length ≤ 1000000
  sz : x.size ≤ 100000
/-- What the last line reads. -/
structure MemR (w W : World) (bE bM : Nat) (vE vM : FV) (x : Fo) (SE SM : Nat → Prop) : Prop where
  e : At4 W bE 0 vE x SE
  m : Bx W bM 32 vM.c
  h : FS W 32 SM x vM.c
  b : Below w.heap.size w W
section
variable {w W W' : World} {bE bM : Nat} {vE vM : FV} {x : Fo} {SE SM : Nat → Prop}
theorem MemR.below (k : MemR w W bE bM vE vM x SE SM) (hb : Below W.heap.size W W') : MemR w W' bE bM vE vM x SE SM := ⟨k.e.below hb, k.m.below hb, k.h.below hb, k.b.trans (hb.mono k.b.size)⟩
theorem MemR.drew (k : MemR w W bE bM vE vM x SE SM) : MemR w W.drew bE bM vE vM x SE SM := k.below (Below.refl _ _).drew
theorem MemR.get (k : MemR w W bE bM vE vM x SE SM) : (fun w' : World => w'.cell? ⟨bE, 0, none⟩ = some (.string vE.o) ∧ w'.cell? ⟨bE, 1, none⟩ = some (.string vE.nm) ∧ w'.cell? ⟨bE, 2, none⟩ = some (.slice vE.A vE.ll vE.cap) ∧ w'.cell? ⟨bE, 3, none⟩ = some (.int .i64 vE.p) ∧ w'.cell? ⟨bM, 0, none⟩ = some (.string vM.o) ∧ w'.cell? ⟨bM, 1, none⟩ = some (.string vM.nm) ∧ w'.cell? ⟨bM, 2, none⟩ = some (.slice vM.A vM.ll vM.cap) ∧ w'.cell? ⟨bM, 3, none⟩ = some (.int .i64 vM.p)) W := by
  obtain ⟨_, e0, e1, e2, e3, _⟩ := k.e
  exact ⟨e0, e1, e2, e3, k.m.cell 0, k.m.cell 1, k.m.cell 2, k.m.cell 3⟩
def MemRP (w : World) (bE bM : Nat) (vE vM : FV) (x : Fo) (SE SM : Nat → Prop) (v : Value) (e : Ending) (w' : World) : Prop := e = .returned v ∧ MemR w w' bE bM vE vM x SE SM
def ToR (w : World) (bE bM : Nat) (vE vM : FV) (x : Fo) (SE SM : Nat → Prop) (e : Ending) (w' : World) : Prop := ∃ v : FV, e = .returned (.agg #[.string v.o, .string v.nm, .slice v.A v.ll v.cap, .int .i64 v.p]) ∧ FS w' 32 (fun j => j < w'.heap.size) x v.c ∧ MemR w w' bE bM vE vM x SE SM
theorem MemR.to (k : MemR w W bE bM vE vM x SE SM) : Calls Tryz.prog 12 #[.agg #[.string vE.o, .string vE.nm, .slice vE.A vE.ll vE.cap, .int .i64 vE.p]] W (ToR w bE bM vE vM x SE SM) :=
  (pto_any x W _ _ k.e.fs).mono fun _ _ ⟨v, h1, hC, h2⟩ => ⟨v, h1, hC.wide (fun _ _ hj => hj.2), k.below h2⟩
theorem MemR.shape (k : MemR w W bE bM vE vM x SE SM) (F : FxR x) {Z : Nat → Prop} {v : FV} (hH : FS W 32 Z x v.c) {t : ByteArray} (ht : t.data.toList = shpF x) : Calls Tryz.prog 11 #[.agg #[.string v.o, .string v.nm, .slice v.A v.ll v.cap, .int .i64 v.p]] W (MemRP w bE bM vE vM x SE SM (.string t)) := by
  obtain ⟨B', hB, hp⟩ := F.pb
  exact (rfshape_any hB x hp W Z _ hH F.sl).mono fun _ _ ⟨h1, h2⟩ => ⟨by rw [h1, strV_eq ht], k.below h2⟩
theorem MemR.rprint (k : MemR w W bE bM vE vM x SE SM) (F : FxR x) {t : ByteArray} (ht : t.data.toList = tlF x) : Calls Tryz.prog 14 #[.agg #[.string vM.o, .string vM.nm, .slice vM.A vM.ll vM.cap, .int .i64 vM.p]] W (MemRP w bE bM vE vM x SE SM (.string t)) :=
  (rfprint_any x F.ok W SM _ k.h F.ln).mono fun _ _ ⟨h1, h2⟩ => ⟨by rw [h1, strV_eq ht], k.below h2⟩
theorem MemR.print (k : MemR w W bE bM vE vM x SE SM) (F : FxR x) {t : ByteArray} (ht : t.data.toList = tlF x) : Calls Tryz.prog 13 #[.agg #[.string vE.o, .string vE.nm, .slice vE.A vE.ll vE.cap, .int .i64 vE.p]] W (MemRP w bE bM vE vM x SE SM (.string t)) :=
  (fprint_any F.ok W k.e.fs F.ln).mono fun _ _ ⟨h1, h2⟩ => ⟨by rw [h1, ← ht], k.below h2⟩
theorem MemR.size (k : MemR w W bE bM vE vM x SE SM) {z : Int} (hz : ((min x.size 4097 : Nat) : Int) = z) : Calls Tryz.prog 15 #[.agg #[.string vE.o, .string vE.nm, .slice vE.A vE.ll vE.cap, .int .i64 vE.p]] W (MemRP w bE bM vE vM x SE SM (.int .i64 z)) :=
  (psize_any W k.e.fs).mono fun _ _ ⟨h1, h2⟩ => ⟨by rw [h1, hz], k.below h2⟩
theorem MemR.rsize (k : MemR w W bE bM vE vM x SE SM) (F : FxR x) {z : Int} (hz : (x.size : Int) = z) : Calls Tryz.prog 16 #[.agg #[.string vM.o, .string vM.nm, .slice vM.A vM.ll vM.cap, .int .i64 vM.p]] W (MemRP w bE bM vE vM x SE SM (.int .i64 z)) :=
  (rfsize_any x (by have := F.sz; omega) W SM _ k.h).mono fun _ _ ⟨h1, h2⟩ => ⟨by rw [h1, hz], k.below h2⟩
def LabR (w : World) (bE bM : Nat) (vE vM : FV) (x : Fo) (SE SM : Nat → Prop) (e : Ending) (w' : World) : Prop := ∃ A cap, e = .returned (.slice A (lbR x).length cap) ∧ RS w' A (lbR x) ∧ MemR w w' bE bM vE vM x SE SM
theorem MemR.labels (k : MemR w W bE bM vE vM x SE SM) (F : FxR x) : Calls Tryz.prog 18 #[.agg #[.string vE.o, .string vE.nm, .slice vE.A vE.ll vE.cap, .int .i64 vE.p]] W (LabR w bE bM vE vM x SE SM) :=
  (plabels_any W F.ok F.sz k.e.fs).mono fun _ _ ⟨v, h1, hrow, _, _, hb⟩ => by
    rw [lbR_lbK] at hrow
    obtain ⟨A, cap, rfl, hr⟩ := rs_row hrow
    exact ⟨A, cap, h1, hr, k.below hb⟩
def LabR2 (A1 : Option Addr) (w : World) (bE bM : Nat) (vE vM : FV) (x : Fo) (SE SM : Nat → Prop) (e : Ending) (w' : World) : Prop := ∃ A cap, e = .returned (.slice A (lbR x).length cap) ∧ RS w' A1 (lbR x) ∧ RS w' A (lbR x) ∧ MemR w w' bE bM vE vM x SE SM
theorem MemR.rlabels (k : MemR w W bE bM vE vM x SE SM) (F : FxR x) {A1 : Option Addr} (h1 : RS W A1 (lbR x)) : Calls Tryz.prog 19 #[.agg #[.string vM.o, .string vM.nm, .slice vM.A vM.ll vM.cap, .int .i64 vM.p]] W (LabR2 A1 w bE bM vE vM x SE SM) :=
  (rflabels_any x F.ok F.sz W SM _ k.h).mono fun _ _ ⟨v, e1, ⟨A, cap, hv, hr, _⟩, hb⟩ => ⟨A, cap, by rw [e1, hv], h1.below hb, hr, k.below hb⟩
theorem MemR.texts (k : MemR w W bE bM vE vM x SE SM) (F : FxR x) {A1 A2 : Option Addr} {c1 c2 : Nat} (h1 : RS W A1 (lbR x)) (h2 : RS W A2 (lbR x)) : Calls Tryz.prog 17 #[.slice A1 (lbR x).length c1, .slice A2 (lbR x).length c2] W (MemRP w bE bM vE vM x SE SM (.bool true)) :=
  (ptexts_any W h1 h2 (by have := lbR_len x; have := F.sz; omega)).mono fun _ _ ⟨e1, hb⟩ => ⟨by rw [e1, decide_eq_true rfl], k.below hb⟩
end
set_option maxHeartbeats 8000000 in
set_option maxRecDepth 100000 in
theorem fparses_ok (s : ByteArray) (D : Nat) (w : World) (hG : GlobS w) (h : s.size ≤ 3000) (h1 : 1 ≤ D) (h64 : D ≤ 64) {x : Fo} (hp : parseF D s.data.toList = .ok x) : Calls Tryz.prog 3 #[.string s, .int .i64 (D : Int)] w (LawF w) := by
  have H0 := Lib.hid (palive_yes w hG)
  have g1 : decide (3000 < (s.size : Int)) = false := by simp; omega
  have hsl : s.data.toList.length = s.size := by simp
  have hgood := parse_okf (by omega) hp
  have hdeep := parse_deepF hp
  have hpb := parse_posF hp
  rw [hsl] at hgood hdeep hpb
  have hln : (tlF x).length ≤ 15000 := by omega
  have hsz := size_tlF x hgood.1
  have hsh := shpF_tl (B := s.size) (by omega) x hgood.1 hpb
  have FX := Lib.hid (show FxR x from ⟨hgood.1, ⟨_, by omega, hpb⟩, by omega, by omega, by omega⟩)
  have HA := Lib.hid (fun (W : World) (hW : GlobS W) => pparse_any (s := s) (D := D) W hW (by omega) h1 h64)
  have HB := Lib.hid (fun (W : World) => rfparse_any (s := s) (D := D) W (by omega) h1 h64)
  rw [hp] at HA HB
  obtain ⟨tp, htp, _⟩ := str_ofF (shpF x) 1000000 FX.out.sl
  obtain ⟨tw, htw, _⟩ := str_ofF (tlF x) 1000000 FX.out.ln
  have HTP := Lib.hid htp
  have HTW := Lib.hid htw
  have g5 : (tp.toList == tp.toList) = true := by simp
  have g6 : (tw.toList == tw.toList) = true := by simp
  have HG := Lib.hid hG
  clear hG hp hgood hdeep hln hpb hsz hsh hsl htp htw h h1 h64
  go_enter Tryz.func3, Tryz.ntmps3
  go_wp2_with fail
  with_reducible refine (H0.out).mono ?_
  rintro e w1 ⟨rfl, hb1⟩
  have HB1 := Lib.hid hb1
  clear hb1
  go_wp2_with fail
  refine (HA.out w1 (HG.out.below HB1.out)).mono ?_
  rintro e w4 ⟨v4, rfl, hC, hb4⟩
  have HB4 := Lib.hid (HB1.out.trans (hb4.mono HB1.out.size))
  have HC4 := Lib.hid (show FS w4 25 _ x v4.c from hC)
  clear hb4 hC
  go_wp2_with fail
  refine calls_gen (P := fun W => At4 W w4.heap.size 0 v4 x (fun j => j < w4.heap.size) ∧ Below w.heap.size w W) ⟨at4_new (HC4.out.wide (fun j _ hj => hj.2)), HB4.out.alloc HB4.out.size _⟩ ?_
  rintro W ⟨hE, hB⟩
  refine (HB.out W).mono ?_
  rintro e w5 ⟨v5, rfl, hC, hb5⟩
  have HE5 := Lib.hid (hE.below hb5)
  have HC5 := Lib.hid ((show FS w5 32 _ x v5.c from hC).wide (T := fun j => j < w5.heap.size) (fun _ _ hj => hj.2))
  have HB5 := Lib.hid (hB.trans (hb5.mono hB.size))
  clear hE hC hB hb5
  have hba := HB5.out.alloc HB5.out.size (.cells #[.string v5.o, .string v5.nm, .slice v5.A v5.ll v5.cap, .int .i64 v5.p] 32)
  have LK := Lib.hid (show MemR w (w5.alloc (.cells #[.string v5.o, .string v5.nm, .slice v5.A v5.ll v5.cap, .int .i64 v5.p] 32)) w4.heap.size w5.heap.size v4 v5 x _ _ from
    ⟨HE5.out.alloc _, Bx.new w5 32 v5.c, HC5.out.alloc _, hba⟩)
  clear hba HE5 HC5 HB5 HC4 HB4
  go_wp2_with fail
  refine calls_gen (P := fun W => MemR w W w4.heap.size w5.heap.size v4 v5 x _ _) LK.out ?_
  rintro W lk
  refine (num_nil2 W).mono ?_
  rintro e _ ⟨rfl, rfl⟩
  go_wp2_with fail
  refine (pos_nil W).mono ?_
  rintro e w6 ⟨rfl, hb6⟩
  replace lk := lk.below hb6
  clear hb6 LK
  go_wp2_with fail
  generalize w5.heap.size = bM at lk ⊢
  generalize w4.heap.size = bE at lk ⊢
  obtain ⟨zn, hzn⟩ : ∃ z : Int, (x.size : Int) = z := ⟨_, rfl⟩
  obtain ⟨zm, hzm⟩ : ∃ z : Int, ((min x.size 4097 : Nat) : Int) = z := ⟨_, rfl⟩
  have gm : min zn 4097 = zm := by rw [← hzn, ← hzm]; omega
  have HZN := Lib.hid hzn
  have HZM := Lib.hid hzm
  clear hzn hzm
  have g7 : (zm == min zn 4097) = true := by rw [gm]; simp
  clear gm
  replace lk := lk.drew
  go_region_held3 (fun w' => w'.cell? ⟨bE, 0, none⟩ = some (.string v4.o) ∧ w'.cell? ⟨bE, 1, none⟩ = some (.string v4.nm) ∧ w'.cell? ⟨bE, 2, none⟩ = some (.slice v4.A v4.ll v4.cap) ∧ w'.cell? ⟨bE, 3, none⟩ = some (.int .i64 v4.p) ∧ w'.cell? ⟨bM, 0, none⟩ = some (.string v5.o) ∧ w'.cell? ⟨bM, 1, none⟩ = some (.string v5.nm) ∧ w'.cell? ⟨bM, 2, none⟩ = some (.slice v5.A v5.ll v5.cap) ∧ w'.cell? ⟨bM, 3, none⟩ = some (.int .i64 v5.p)) (exact lk.get) (first
    | (go_at_call 12; (with_reducible refine (lk.to).mono ?_); rintro e wA ⟨v7, rfl, tX, lk2⟩; replace lk := lk2; clear lk2)
    | (go_at_call 11; (with_reducible refine (lk.shape FX.out tX HTP.out).mono ?_); rintro e wA ⟨rfl, lk2⟩; replace lk := lk2; clear lk2 tX)
    | (go_at_call 11; (with_reducible refine (lk.shape FX.out lk.h HTP.out).mono ?_); rintro e wA ⟨rfl, lk2⟩; replace lk := lk2; clear lk2)
    | (go_at_call 13; (with_reducible refine (lk.print FX.out HTW.out).mono ?_); rintro e wA ⟨rfl, lk2⟩; replace lk := lk2; clear lk2)
    | (go_at_call 14; (with_reducible refine (lk.rprint FX.out HTW.out).mono ?_); rintro e wA ⟨rfl, lk2⟩; replace lk := lk2; clear lk2)
    | (go_at_call 15; (with_reducible refine (lk.size HZM.out).mono ?_); rintro e wA ⟨rfl, lk2⟩; replace lk := lk2; clear lk2)
    | (go_at_call 16; (with_reducible refine (lk.rsize FX.out HZN.out).mono ?_); rintro e wA ⟨rfl, lk2⟩; replace lk := lk2; clear lk2)
    | (go_at_call 18; (with_reducible refine (lk.labels FX.out).mono ?_); rintro e wA ⟨B1, cB1, rfl, tA, lk2⟩; replace lk := lk2; clear lk2)
    | (go_at_call 19; (with_reducible refine (lk.rlabels FX.out tA).mono ?_); rintro e wA ⟨B2, cB2, rfl, tA2, tB, lk2⟩; replace lk := lk2; replace tA := tA2; clear lk2 tA2)
    | (go_at_call 17; (with_reducible refine (lk.texts FX.out tA tB).mono ?_); rintro e wA ⟨rfl, lk2⟩; replace lk := lk2; clear lk2 tA tB))
  all_goals go_wp2
  all_goals go_ret
  all_goals exact ⟨rfl, lk.b⟩
theorem pparses_yes (s : ByteArray) (d : Int) (w : World) (hG : GlobS w) (hs : s.size ≤ 140737488355328) : Calls Tryz.prog 3 #[.string s, .int .i64 d] w (LawF w) := by
  by_cases h : 3000 < s.size
  · exact fparses_long s d w hG h
  · rcases bad_or d with hb | ⟨D, rfl, h1, h2⟩
    · exact fparses_bad s d w hG (by omega) hb
    · cases hp : parseF D s.data.toList with
      | er c q => exact fparses_er s D c q w hG (by omega) h1 h2 hp
      | ok x => exact fparses_ok s D w hG (by omega) h1 h2 hp
end Go.Proofs.YtjhicgllofjpoaaGreatDoor
