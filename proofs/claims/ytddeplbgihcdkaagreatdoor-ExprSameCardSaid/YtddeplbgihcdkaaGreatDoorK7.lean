/-
  ExprSame, walked.
-/
import Derived.Test.YtddeplbgihcdkaaGreatDoorD7
import Derived.Test.YtddeplbgihcdkaaGreatDoorKV
import Derived.Test.YtddeplbgihcdkaaGreatDoorQW
import Derived.Deep.RegionHeld3
namespace Go.Proofs.YtddeplbgihcdkaaGreatDoor
open Go.RowKit Go.Sort

def TotD (w : World) (e : Ending) (w' : World) : Prop := ∃ o nm n A ll cap p g, e = .returned (.tuple #[.agg #[.string o, .string nm, .int .i64 n, .slice A ll cap, .int .i64 p], g]) ∧ (g = .nilIface ∨ ∃ t v, g = .iface t v) ∧ Below w.heap.size w w'
theorem parse_totD {s : ByteArray} {d : Int} (w : World) (hG : GlobS w) (hs : s.size ≤ 65536) : Calls Tryz.prog 34 #[.string s, .int .i64 d] w (TotD w) := by
  rcases fails_or s d with h | ⟨D, e, r, rfl, h1, h2, hp⟩
  · exact (parse_fails w hG hs h).mono fun _ _ ⟨t, v, h1, h2⟩ => ⟨_, _, _, _, _, _, _, _, h1, .inr ⟨t, v, rfl⟩, h2⟩
  · have := parse_any (s := s) w hG hs h1 h2
    rw [hp] at this
    exact this.mono fun _ _ ⟨o, nm, n, A, l, cap, p, h1, _, h2⟩ => ⟨_, _, _, _, _, _, _, _, h1, .inl rfl, h2⟩
set_option maxRecDepth 100000 in
theorem esame_long (a b : ByteArray) (d : Int) (w : World) (hG : GlobT w) (ha : a.size ≤ 140737488355328) (hb : b.size ≤ 140737488355328) (h : 3000 < a.size + b.size) : Calls Tryz.prog 7 #[.string a, .string b, .int .i64 d] w (LawF w) := by
  have H0 := Lib.hid (alive_yes w hG)
  have g1 : decide (3000 < (a.size : Int) + (b.size : Int)) = true := by simp; omega
  clear hG h
  go_enter Tryz.func7, Tryz.ntmps7
  go_wp2_with fail
  with_reducible refine (H0.out).mono ?_
  rintro e w1 ⟨rfl, hb1⟩
  go_wp2
  go_ret
  exact ⟨rfl, hb1⟩
set_option maxHeartbeats 2000000 in
set_option maxRecDepth 100000 in
theorem esame_bad (a b : ByteArray) (d : Int) (w : World) (hG : GlobT w) (h : a.size + b.size ≤ 3000) (hd : d < 1 ∨ 64 < d) : Calls Tryz.prog 7 #[.string a, .string b, .int .i64 d] w (LawF w) := by
  have H0 := Lib.hid (alive_yes w hG)
  have g1 : decide (3000 < (a.size : Int) + (b.size : Int)) = false := by simp; omega
  have HR := Lib.hid (fun W : World => read_bad none d W hd)
  have HN := Lib.hid (fun (W : World) (hW : GlobT W) => num_errno 1 W hW.s.glob)
  have HA := Lib.hid (fun W : World => parse_bad a d W hd)
  have HB := Lib.hid (fun W : World => parse_bad b d W hd)
  have HG := Lib.hid hG
  have g2 : (decide (d < 1) || decide (64 < d)) = true := by simpa using hd
  obtain ⟨c1, hc1⟩ : ∃ c, decide (d < 1) = c := ⟨_, rfl⟩
  obtain ⟨c2, hc2⟩ : ∃ c, decide (64 < d) = c := ⟨_, rfl⟩
  rw [hc1, hc2] at g2
  clear hG hd
  rcases c1 with _ | _ <;> rcases c2 with _ | _ <;> first | (exfalso; revert g2; decide) | skip
  all_goals
    clear g2
    go_enter Tryz.func7, Tryz.ntmps7
    go_wp2_with fail
    with_reducible refine (H0.out).mono ?_
    rintro e w1 ⟨rfl, hb1⟩
    have HB1 := Lib.hid hb1
    clear hb1
    go_wp2_with fail
    refine (HR.out w1).mono ?_
    rintro e w2 ⟨rfl, hb2⟩
    have HB2 := Lib.hid (HB1.out.trans (hb2.mono HB1.out.size))
    clear hb2
    go_wp2_with fail
    have hba := HB2.out.alloc HB2.out.size (.cells #[.string ⟨#[]⟩, .string ⟨#[]⟩, .int .i64 0, .slice none 0 0, .int .i64 0] 62)
    refine (HN.out _ (HG.out.below hba)).mono ?_
    rintro e w3 ⟨rfl, hb3⟩
    have HB3 := Lib.hid (hba.trans (hb3.mono hba.size))
    clear hb3 hba
    go_wp2_with fail
    refine (HA.out w3).mono ?_
    rintro e w4 ⟨rfl, hb4⟩
    have HB4 := Lib.hid (HB3.out.trans (hb4.mono HB3.out.size))
    clear hb4
    go_wp2_with fail
    have hba := HB4.out.alloc HB4.out.size (.cells #[.string ⟨#[]⟩, .string ⟨#[]⟩, .int .i64 0, .slice none 0 0, .int .i64 0] 62)
    refine (HB.out _).mono ?_
    rintro e w5 ⟨rfl, hb5⟩
    have HB5 := Lib.hid (hba.trans (hb5.mono hba.size))
    clear hb5 hba
    go_wp2
    go_ret
    exact ⟨rfl, HB5.out.alloc HB5.out.size _⟩
/-- What a text reads as, or that it doesn't. -/
def ReadP (s : ByteArray) (D : Nat) (w : World) (e : Ending) (w' : World) : Prop := ∃ o nm n A ll cap p g, e = .returned (.tuple #[.agg #[.string o, .string nm, .int .i64 n, .slice A ll cap, .int .i64 p], g]) ∧ ((g = .nilIface ∧ ∃ x r, parseX D s.data.toList = .ok x r ∧ HS w' 62 (fun j => j < w'.heap.size) x (exC o nm n A ll cap p)) ∨ ∃ t v, g = .iface t v) ∧ Below w.heap.size w w'
theorem parse_read {s : ByteArray} {D : Nat} (w : World) (hG : GlobS w) (hs : s.size ≤ 65536) (h1 : 1 ≤ D) (h64 : D ≤ 64) : Calls Tryz.prog 34 #[.string s, .int .i64 (D : Int)] w (ReadP s D w) := by
  have := parse_any (s := s) w hG hs h1 h64
  cases hp : parseX D s.data.toList with
  | er c q =>
    rw [hp] at this
    exact this.mono fun _ _ ⟨b, h1, _, _, h2⟩ => ⟨_, _, _, _, _, _, _, _, h1, .inr ⟨_, _, rfl⟩, h2⟩
  | ok x r =>
    rw [hp] at this
    exact this.mono fun _ _ ⟨o, nm, n, A, l, cap, p, h1, hC, h2⟩ => ⟨_, _, _, _, _, _, _, _, h1, .inl ⟨rfl, x, r, hp, hC.wide (fun _ _ hj => hj.2)⟩, h2⟩
/-- What the last line reads. -/
structure Mem7 (w W : World) (bX bY : Nat) (vX vY : XV) (x y : Ex) (SX SY : Nat → Prop) : Prop where
  x : At5 W bX 0 vX x SX
  y : At5 W bY 0 vY y SY
  b : Below w.heap.size w W
section
variable {w W W' : World} {bX bY : Nat} {vX vY : XV} {x y : Ex} {SX SY : Nat → Prop}
theorem Mem7.below (m : Mem7 w W bX bY vX vY x y SX SY) (hb : Below W.heap.size W W') : Mem7 w W' bX bY vX vY x y SX SY := ⟨m.x.below hb, m.y.below hb, m.b.trans (hb.mono m.b.size)⟩
theorem Mem7.drew (m : Mem7 w W bX bY vX vY x y SX SY) : Mem7 w W.drew bX bY vX vY x y SX SY := m.below (Below.refl _ _).drew
theorem Mem7.get (m : Mem7 w W bX bY vX vY x y SX SY) : (fun w' : World => w'.cell? ⟨bX, 0, none⟩ = some (.string vX.o) ∧ w'.cell? ⟨bX, 1, none⟩ = some (.string vX.nm) ∧ w'.cell? ⟨bX, 2, none⟩ = some (.int .i64 vX.n) ∧ w'.cell? ⟨bX, 3, none⟩ = some (.slice vX.A vX.ll vX.cap) ∧ w'.cell? ⟨bX, 4, none⟩ = some (.int .i64 vX.p) ∧ w'.cell? ⟨bY, 0, none⟩ = some (.string vY.o) ∧ w'.cell? ⟨bY, 1, none⟩ = some (.string vY.nm) ∧ w'.cell? ⟨bY, 2, none⟩ = some (.int .i64 vY.n) ∧ w'.cell? ⟨bY, 3, none⟩ = some (.slice vY.A vY.ll vY.cap) ∧ w'.cell? ⟨bY, 4, none⟩ = some (.int .i64 vY.p)) W := by
  obtain ⟨_, e0, e1, e2, e3, e4, _⟩ := m.x
  obtain ⟨_, y0, y1, y2, y3, y4, _⟩ := m.y
  exact ⟨e0, e1, e2, e3, e4, y0, y1, y2, y3, y4⟩
def Same7 (w : World) (bX bY : Nat) (vX vY : XV) (x y : Ex) (SX SY : Nat → Prop) (v : Value) (W : World) (e : Ending) (w' : World) : Prop := e = .returned v ∧ Mem7 w w' bX bY vX vY x y SX SY ∧ Below W.heap.size W w'
def To7 (w : World) (bX bY : Nat) (vX vY : XV) (x y : Ex) (SX SY : Nat → Prop) (z : Ex) (W : World) (e : Ending) (w' : World) : Prop := ∃ o nm n A l cap p, e = .returned (.agg #[.string o, .string nm, .int .i64 n, .slice A l cap, .int .i64 p]) ∧ HS w' 70 (fun j => j < w'.heap.size) z (exC o nm n A l cap p) ∧ Mem7 w w' bX bY vX vY x y SX SY ∧ Below W.heap.size W w'
theorem Mem7.same (m : Mem7 w W bX bY vX vY x y SX SY) {v : Bool} (hv : decide (x.bare = y.bare) = v) : Calls Tryz.prog 35 #[.agg #[.string vX.o, .string vX.nm, .int .i64 vX.n, .slice vX.A vX.ll vX.cap, .int .i64 vX.p], .agg #[.string vY.o, .string vY.nm, .int .i64 vY.n, .slice vY.A vY.ll vY.cap, .int .i64 vY.p]] W (Same7 w bX bY vX vY x y SX SY (.bool v) W) :=
  (same_any x y W _ _ _ _ m.x.hs m.y.hs).mono fun _ _ ⟨h1, h2⟩ => ⟨by rw [h1, hv], m.below h2, h2⟩
theorem Mem7.to1 (m : Mem7 w W bX bY vX vY x y SX SY) : Calls Tryz.prog 37 #[.agg #[.string vX.o, .string vX.nm, .int .i64 vX.n, .slice vX.A vX.ll vX.cap, .int .i64 vX.p]] W (To7 w bX bY vX vY x y SX SY x W) :=
  (to_any x W _ _ m.x.hs).mono fun _ _ ⟨o, nm, n, A, l, cap, p, h1, hC, h2⟩ => ⟨o, nm, n, A, l, cap, p, h1, hC.wide (fun _ _ hj => hj.2), m.below h2, h2⟩
theorem Mem7.to2 (m : Mem7 w W bX bY vX vY x y SX SY) : Calls Tryz.prog 37 #[.agg #[.string vY.o, .string vY.nm, .int .i64 vY.n, .slice vY.A vY.ll vY.cap, .int .i64 vY.p]] W (To7 w bX bY vX vY x y SX SY y W) :=
  (to_any y W _ _ m.y.hs).mono fun _ _ ⟨o, nm, n, A, l, cap, p, h1, hC, h2⟩ => ⟨o, nm, n, A, l, cap, p, h1, hC.wide (fun _ _ hj => hj.2), m.below h2, h2⟩
theorem Mem7.pr (m : Mem7 w W bX bY vX vY x y SX SY) {z : Ex} {Z : Nat → Prop} {o nm : ByteArray} {n : Int} {A : Option Addr} {l cap : Nat} {p : Int} (hz : Ok z) (hl : (shw z).length ≤ 1000000) (hH : HS W 70 Z z (exC o nm n A l cap p)) {t : ByteArray} (ht : t.data.toList = shw z) : Calls Tryz.prog 36 #[.agg #[.string o, .string nm, .int .i64 n, .slice A l cap, .int .i64 p]] W (Same7 w bX bY vX vY x y SX SY (.string t) W) :=
  (pr_any z hz W Z _ hH hl).mono fun _ _ ⟨h1, h2⟩ => ⟨by rw [h1, strV_eq ht], m.below h2, h2⟩
end
set_option maxHeartbeats 4000000 in
set_option maxRecDepth 100000 in
theorem esame_ok (a b : ByteArray) (D : Nat) (w : World) (hG : GlobT w) (h : a.size + b.size ≤ 3000) (h1 : 1 ≤ D) (h64 : D ≤ 64) : Calls Tryz.prog 7 #[.string a, .string b, .int .i64 (D : Int)] w (LawF w) := by
  have H0 := Lib.hid (alive_yes w hG)
  have g1 : decide (3000 < (a.size : Int) + (b.size : Int)) = false := by simp; omega
  have g2 : decide ((D : Int) < 1) = false := by simp; omega
  have g3 : decide ((64 : Int) < (D : Int)) = false := by simp; omega
  have HR := Lib.hid (fun W : World => read_nil (D : Int) W (by omega))
  have HN := Lib.hid (fun (W : World) (hW : GlobT W) => num_errno 3 W hW.s.glob)
  have HA := Lib.hid (fun (W : World) (hW : GlobT W) => parse_read (s := a) (D := D) W hW.s (by omega) h1 h64)
  have HB := Lib.hid (fun (W : World) (hW : GlobT W) => parse_read (s := b) (D := D) W hW.s (by omega) h1 h64)
  have hsa : a.data.toList.length ≤ 3000 := by rw [size_list]; omega
  have hsb : b.data.toList.length ≤ 3000 := by rw [size_list]; omega
  have HSA := Lib.hid hsa
  have HSB := Lib.hid hsb
  have HG := Lib.hid hG
  clear hG hsa hsb h1 h64
  go_enter Tryz.func7, Tryz.ntmps7
  go_wp2_with fail
  with_reducible refine (H0.out).mono ?_
  rintro e w1 ⟨rfl, hb1⟩
  have HB1 := Lib.hid hb1
  clear hb1
  go_wp2_with fail
  refine (HR.out w1).mono ?_
  rintro e w2 ⟨rfl, hb2⟩
  have HB2 := Lib.hid (HB1.out.trans (hb2.mono HB1.out.size))
  clear hb2
  go_wp2_with fail
  have hba := HB2.out.alloc HB2.out.size (.cells #[.string ⟨#[]⟩, .string ⟨#[]⟩, .int .i64 0, .slice none 0 0, .int .i64 0] 62)
  refine (HN.out _ (HG.out.below hba)).mono ?_
  rintro e w3 ⟨rfl, hb3⟩
  have HB3 := Lib.hid (hba.trans (hb3.mono hba.size))
  clear hb3 hba
  go_wp2_with fail
  refine (HA.out w3 (HG.out.below HB3.out)).mono ?_
  rintro e w4 ⟨o4, nm4, n4, A4, l4, cap4, p4, ga, rfl, hga, hb4⟩
  have HB4 := Lib.hid (HB3.out.trans (hb4.mono HB3.out.size))
  have HGA := Lib.hid hga
  clear hb4 hga
  go_wp2_with fail
  have hba := HB4.out.alloc HB4.out.size (.cells #[.string o4, .string nm4, .int .i64 n4, .slice A4 l4 cap4, .int .i64 p4] 62)
  refine (HB.out _ (HG.out.below hba)).mono ?_
  rintro e w5 ⟨o5, nm5, n5, A5, l5, cap5, p5, gb, rfl, hgb, hb5⟩
  have HB5 := Lib.hid (hba.trans (hb5.mono hba.size))
  have HBX := Lib.hid ((Box.new w4 (.string o4) (.string nm4) (.int .i64 n4) (.slice A4 l4 cap4) (.int .i64 p4)).below hb5)
  have HB45 := Lib.hid (((Below.refl w4.heap.size w4).alloc (Nat.le_refl _) (.cells #[.string o4, .string nm4, .int .i64 n4, .slice A4 l4 cap4, .int .i64 p4] 62)).trans (hb5.mono (by simp)))
  have HGB := Lib.hid hgb
  clear hb5 hba hgb
  rcases HGA.out with ⟨rfl, x, r, hpx, hHx⟩ | ⟨t, v, rfl⟩
  · rcases HGB.out with ⟨rfl, y, r', hpy, hHy⟩ | ⟨t', v', rfl⟩
    · have hgx := parse_good (by have := HSA.out; omega) hpx
      have hgy := parse_good (by have := HSB.out; omega) hpy
      have hlx := shw_len (by have := HSA.out; omega) hpx
      have hly := shw_len (by have := HSB.out; omega) hpy
      obtain ⟨tx, htx, htx2⟩ := str_of (shw x) 1000000 (by have := HSA.out; omega)
      obtain ⟨ty, hty, hty2⟩ := str_of (shw y) 1000000 (by have := HSB.out; omega)
      obtain ⟨v, hv⟩ : ∃ v, decide (x.bare = y.bare) = v := ⟨_, rfl⟩
      have hq : (tx.toList == ty.toList) = v := by
        rw [← hv, ByteArray.toList_eq, ByteArray.toList_eq, htx, hty, Bool.beq_eq_decide_eq, decide_eq_decide]
        exact ⟨fun h => shw_inj hgx.1 hgy.1 h, fun h => shw_same h⟩
      have hvv : (v == v) = true := by cases v <;> rfl
      have HTX := Lib.hid htx
      have HTY := Lib.hid hty
      have HV := Lib.hid hv
      have HOX := Lib.hid hgx.1
      have HOY := Lib.hid hgy.1
      have HLX := Lib.hid (show (shw x).length ≤ 1000000 by have := HSA.out; omega)
      have HLY := Lib.hid (show (shw y).length ≤ 1000000 by have := HSB.out; omega)
      have LK := Lib.hid (show Mem7 w (w5.alloc (.cells #[.string o5, .string nm5, .int .i64 n5, .slice A5 l5 cap5, .int .i64 p5] 62)) w4.heap.size w5.heap.size ⟨o4, nm4, n4, A4, l4, cap4, p4⟩ ⟨o5, nm5, n5, A5, l5, cap5, p5⟩ x y _ _ from
        ⟨(HBX.out.alloc _).at5 (v := ⟨o4, nm4, n4, A4, l4, cap4, p4⟩) ((hHx.below HB45.out).alloc _), (Box.new w5 _ _ _ _ _).at5 (v := ⟨o5, nm5, n5, A5, l5, cap5, p5⟩) (hHy.alloc _), HB5.out.alloc HB5.out.size _⟩)
      clear hpx hpy hHx hHy hgx hgy hlx hly htx hty hv HGA HGB HBX HB45 htx2 hty2
      go_wp2_with fail
      have lk := LK.out
      clear LK
      generalize w5.alloc (.cells #[.string o5, .string nm5, .int .i64 n5, .slice A5 l5 cap5, .int .i64 p5] 62) = W at lk ⊢
      generalize w5.heap.size = bY at lk ⊢
      generalize w4.heap.size = bX at lk ⊢
      generalize (⟨o4, nm4, n4, A4, l4, cap4, p4⟩ : XV) = vX at lk ⊢
      generalize (⟨o5, nm5, n5, A5, l5, cap5, p5⟩ : XV) = vY at lk ⊢
      replace lk := lk.drew
      go_region_held3 (fun w' => w'.cell? ⟨bX, 0, none⟩ = some (.string vX.o) ∧ w'.cell? ⟨bX, 1, none⟩ = some (.string vX.nm) ∧ w'.cell? ⟨bX, 2, none⟩ = some (.int .i64 vX.n) ∧ w'.cell? ⟨bX, 3, none⟩ = some (.slice vX.A vX.ll vX.cap) ∧ w'.cell? ⟨bX, 4, none⟩ = some (.int .i64 vX.p) ∧ w'.cell? ⟨bY, 0, none⟩ = some (.string vY.o) ∧ w'.cell? ⟨bY, 1, none⟩ = some (.string vY.nm) ∧ w'.cell? ⟨bY, 2, none⟩ = some (.int .i64 vY.n) ∧ w'.cell? ⟨bY, 3, none⟩ = some (.slice vY.A vY.ll vY.cap) ∧ w'.cell? ⟨bY, 4, none⟩ = some (.int .i64 vY.p)) (exact lk.get) (first
        | (go_at_call 35; (with_reducible refine (lk.same HV.out).mono ?_); rintro e wA ⟨rfl, lk2, hbA⟩; replace lk := lk2; clear lk2; (try replace tX := tX.below hbA); (try replace tY := tY.below hbA); clear hbA)
        | (go_at_call 37; (with_reducible refine (lk.to1).mono ?_); rintro e wA ⟨o7, nm7, n7, A7, l7, cap7, p7, rfl, tX, lk2, hbA⟩; replace lk := lk2; clear lk2; (try replace tY := tY.below hbA); clear hbA)
        | (go_at_call 37; (with_reducible refine (lk.to2).mono ?_); rintro e wA ⟨o8, nm8, n8, A8, l8, cap8, p8, rfl, tY, lk2, hbA⟩; replace lk := lk2; clear lk2; (try replace tX := tX.below hbA); clear hbA)
        | (go_at_call 36; (with_reducible refine (lk.pr HOX.out HLX.out tX HTX.out).mono ?_); rintro e wA ⟨rfl, lk2, hbA⟩; replace lk := lk2; clear lk2; (try replace tX := tX.below hbA); (try replace tY := tY.below hbA); clear hbA)
        | (go_at_call 36; (with_reducible refine (lk.pr HOY.out HLY.out tY HTY.out).mono ?_); rintro e wA ⟨rfl, lk2, hbA⟩; replace lk := lk2; clear lk2; (try replace tX := tX.below hbA); (try replace tY := tY.below hbA); clear hbA))
      all_goals go_wp2
      all_goals go_ret
      all_goals exact ⟨rfl, lk.b⟩
    · clear HGA HGB HBX HB45
      go_wp2
      go_ret
      exact ⟨rfl, HB5.out.alloc HB5.out.size _⟩
  · rcases HGB.out with ⟨rfl, _⟩ | ⟨t', v', rfl⟩
    · clear HGA HGB HBX HB45
      go_wp2
      go_ret
      exact ⟨rfl, HB5.out.alloc HB5.out.size _⟩
    · clear HGA HGB HBX HB45
      go_wp2
      go_ret
      exact ⟨rfl, HB5.out.alloc HB5.out.size _⟩
theorem esame_yes (a b : ByteArray) (d : Int) (w : World) (hG : GlobT w) (ha : a.size ≤ 140737488355328) (hb : b.size ≤ 140737488355328) : Calls Tryz.prog 7 #[.string a, .string b, .int .i64 d] w (LawF w) := by
  by_cases h : 3000 < a.size + b.size
  · exact esame_long a b d w hG ha hb h
  · by_cases hd : d < 1 ∨ 64 < d
    · exact esame_bad a b d w hG (by omega) hd
    · obtain ⟨D, rfl⟩ : ∃ D : Nat, d = (D : Int) := ⟨d.toNat, by omega⟩
      exact esame_ok a b D w hG (by omega) (by omega) (by omega)
end Go.Proofs.YtddeplbgihcdkaaGreatDoor
