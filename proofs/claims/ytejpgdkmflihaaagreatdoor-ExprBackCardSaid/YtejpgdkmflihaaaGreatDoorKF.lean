/-
  ExprBack, walked.
-/
import Derived.Test.YtejpgdkmflihaaaGreatDoorKV
import Derived.Test.YtejpgdkmflihaaaGreatDoorSZ
import Derived.Test.YtejpgdkmflihaaaGreatDoorQW
import Derived.Deep.RegionHeld3
namespace Go.Proofs.YtejpgdkmflihaaaGreatDoor
open Go.RowKit Go.Sort

/-- What the last test reads. -/
structure Mem6 (w W : World) (bE bX : Nat) (vE vX : XV) (e0 x0 : Ex) (SE SX : Nat → Prop) : Prop where
  e : At5 W bE 0 vE e0 SE
  x : At5 W bX 0 vX x0 SX
  b : Below w.heap.size w W
  t : Tabs W
  ex : e0.bare = x0.bare
  ok : Ok x0
  ln : (shw x0).length ≤ 1000000
  sh : shw x0 = shw e0
section
variable {w W W' : World} {bE bX : Nat} {vE vX : XV} {e0 x0 : Ex} {SE SX : Nat → Prop}
theorem Mem6.below (m : Mem6 w W bE bX vE vX e0 x0 SE SX) (hb : Below W.heap.size W W') : Mem6 w W' bE bX vE vX e0 x0 SE SX := ⟨m.e.below hb, m.x.below hb, m.b.trans (hb.mono m.b.size), tabs_on m.t hb, m.ex, m.ok, m.ln, m.sh⟩
theorem Mem6.drew (m : Mem6 w W bE bX vE vX e0 x0 SE SX) : Mem6 w W.drew bE bX vE vX e0 x0 SE SX := m.below (Below.refl _ _).drew
theorem Mem6.S (m : Mem6 w W bE bX vE vX e0 x0 SE SX) : (fun w' : World => w'.cell? ⟨bE, 0, none⟩ = some (.string vE.o) ∧ w'.cell? ⟨bE, 1, none⟩ = some (.string vE.nm) ∧ w'.cell? ⟨bE, 2, none⟩ = some (.int .i64 vE.n) ∧ w'.cell? ⟨bE, 3, none⟩ = some (.slice vE.A vE.ll vE.cap) ∧ w'.cell? ⟨bE, 4, none⟩ = some (.int .i64 vE.p) ∧ w'.cell? ⟨bX, 0, none⟩ = some (.string vX.o) ∧ w'.cell? ⟨bX, 1, none⟩ = some (.string vX.nm) ∧ w'.cell? ⟨bX, 2, none⟩ = some (.int .i64 vX.n) ∧ w'.cell? ⟨bX, 3, none⟩ = some (.slice vX.A vX.ll vX.cap) ∧ w'.cell? ⟨bX, 4, none⟩ = some (.int .i64 vX.p)) W := by
  obtain ⟨_, e0, e1, e2, e3, e4, _⟩ := m.e
  obtain ⟨_, y0, y1, y2, y3, y4, _⟩ := m.x
  exact ⟨e0, e1, e2, e3, e4, y0, y1, y2, y3, y4⟩
def Mem6P (w : World) (bE bX : Nat) (vE vX : XV) (e0 x0 : Ex) (SE SX : Nat → Prop) (v : Value) (e : Ending) (w' : World) : Prop := e = .returned v ∧ Mem6 w w' bE bX vE vX e0 x0 SE SX
theorem Mem6.same1 (m : Mem6 w W bE bX vE vX e0 x0 SE SX) : Calls Tryz.prog 22 #[.agg #[.string vE.o, .string vE.nm, .int .i64 vE.n, .slice vE.A vE.ll vE.cap, .int .i64 vE.p], .agg #[.string vX.o, .string vX.nm, .int .i64 vX.n, .slice vX.A vX.ll vX.cap, .int .i64 vX.p]] W (Mem6P w bE bX vE vX e0 x0 SE SX (.bool true)) :=
  (same_any e0 x0 W _ _ _ _ m.e.hs m.x.hs).mono fun _ _ ⟨h1, h2⟩ => ⟨by rw [h1, decide_eq_true m.ex], m.below h2⟩
theorem Mem6.same2 (m : Mem6 w W bE bX vE vX e0 x0 SE SX) : Calls Tryz.prog 22 #[.agg #[.string vX.o, .string vX.nm, .int .i64 vX.n, .slice vX.A vX.ll vX.cap, .int .i64 vX.p], .agg #[.string vE.o, .string vE.nm, .int .i64 vE.n, .slice vE.A vE.ll vE.cap, .int .i64 vE.p]] W (Mem6P w bE bX vE vX e0 x0 SE SX (.bool true)) :=
  (same_any x0 e0 W _ _ _ _ m.x.hs m.e.hs).mono fun _ _ ⟨h1, h2⟩ => ⟨by rw [h1, decide_eq_true m.ex.symm], m.below h2⟩
theorem Mem6.print (m : Mem6 w W bE bX vE vX e0 x0 SE SX) : Calls Tryz.prog 18 #[.agg #[.string vX.o, .string vX.nm, .int .i64 vX.n, .slice vX.A vX.ll vX.cap, .int .i64 vX.p]] W (Mem6P w bE bX vE vX e0 x0 SE SX (.string ⟨(shw e0).toArray⟩)) :=
  (print_any m.ok W m.x.hs m.t m.ln).mono fun _ _ ⟨h1, h2⟩ => ⟨by rw [h1, m.sh], m.below h2⟩
theorem Mem6.size1 (m : Mem6 w W bE bX vE vX e0 x0 SE SX) : Calls Tryz.prog 20 #[.agg #[.string vX.o, .string vX.nm, .int .i64 vX.n, .slice vX.A vX.ll vX.cap, .int .i64 vX.p]] W (Mem6P w bE bX vE vX e0 x0 SE SX (.int .i64 ((min e0.size 4097 : Nat) : Int))) :=
  (size_any W m.x.hs).mono fun _ _ ⟨h1, h2⟩ => ⟨by rw [h1, size_same m.ex], m.below h2⟩
theorem Mem6.size2 (m : Mem6 w W bE bX vE vX e0 x0 SE SX) : Calls Tryz.prog 20 #[.agg #[.string vE.o, .string vE.nm, .int .i64 vE.n, .slice vE.A vE.ll vE.cap, .int .i64 vE.p]] W (Mem6P w bE bX vE vX e0 x0 SE SX (.int .i64 ((min e0.size 4097 : Nat) : Int))) :=
  (size_any W m.e.hs).mono fun _ _ ⟨h1, h2⟩ => ⟨h1, m.below h2⟩
end
set_option maxHeartbeats 2000000 in
set_option maxRecDepth 100000 in
theorem back_ok (s : ByteArray) (D : Nat) (w : World) (hG : GlobT w) (hs : s.size ≤ 3000) (h1 : 1 ≤ D) (h64 : D ≤ 64) {e0 : Ex} {r0 : List Tok} (hp : parseX D s.data.toList = .ok e0 r0) : Calls Tryz.prog 4 #[.string s, .int .i64 (D : Int)] w (LawF w) := by
  have H0 := Lib.hid (alive_yes w hG)
  have g1 : decide (3000 < (s.size : Int)) = false := by simp; omega
  have HG := Lib.hid hG
  have hsl : s.data.toList.length = s.size := by simp
  have hgood := parse_good (by omega) hp
  have hln := shw_len (by omega) hp
  rw [hsl] at hln
  obtain ⟨x0, rx, hpx, hbx⟩ := parse_shw hgood.1 hgood.2
  have hgx := parse_good (by omega) hpx
  have hsx := shw_same hbx
  have H3 := Lib.hid (fun (W : World) (hW : GlobT W) => parse_any (s := s) W hW.s (by omega) h1 h64)
  rw [hp] at H3
  obtain ⟨T, hT⟩ : ∃ T : ByteArray, T = ⟨(shw e0).toArray⟩ := ⟨_, rfl⟩
  have hTL : T.data.toList = shw e0 := by rw [hT]
  have H4 := Lib.hid (fun (W : World) (hW : GlobT W) => parse_any (s := T) (D := D) W hW.s (by rw [← size_list, hTL]; omega) h1 h64)
  rw [hTL, hpx] at H4
  have HPR := Lib.hid (fun (W : World) (hW : GlobT W) (b : Nat) (v : XV) (S : Nat → Prop) (hE : At5 W b 0 v e0 S) => print_any hgood.1 W hE.hs hW.t (by omega))
  rw [← hT] at HPR
  have HX := Lib.hid (show e0.bare = x0.bare ∧ Ok x0 ∧ (shw x0).length ≤ 1000000 ∧ shw x0 = shw e0 from ⟨hbx.symm, hgx.1, by rw [hsx]; omega, hsx⟩)
  have HT := Lib.hid hT
  clear hG hp hpx hbx hgx hsx hgood hln hsl hTL hT
  go_enter Tryz.func4, Tryz.ntmps4
  go_wp2_with fail
  with_reducible refine (H0.out).mono ?_
  rintro e w1 ⟨rfl, hb1⟩
  have HB1 := Lib.hid hb1
  clear hb1
  go_wp2_with fail
  refine (H3.out _ (HG.out.below HB1.out)).mono ?_
  rintro e w3 ⟨o3, nm3, n3, A3, ll3, cap3, p3, rfl, hC, hb3⟩
  have HB3 := Lib.hid (HB1.out.trans (hb3.mono HB1.out.size))
  have HC3 := Lib.hid hC
  clear hb3 hC
  go_wp2_with fail
  refine calls_gen (P := fun W => At5 W w3.heap.size 0 ⟨o3, nm3, n3, A3, ll3, cap3, p3⟩ e0 (fun j => j < w3.heap.size) ∧ Below w.heap.size w W) ⟨(Box.new w3 _ _ _ _ _).at5 (v := ⟨o3, nm3, n3, A3, ll3, cap3, p3⟩) ((HC3.out.wide (fun j _ hj => hj.2)).alloc _), HB3.out.alloc HB3.out.size _⟩ ?_
  rintro W ⟨hE, hB⟩
  refine (HPR.out W (HG.out.below hB) _ _ _ hE).mono ?_
  rintro e w4 ⟨rfl, hb4⟩
  have HE4 := Lib.hid (hE.below hb4)
  have HB4 := Lib.hid (hB.trans (hb4.mono hB.size))
  clear hE hB hb4 HC3 HB3
  go_wp2_with fail
  refine (H4.out _ (HG.out.below HB4.out)).mono ?_
  rintro e w7 ⟨o7, nm7, n7, A7, ll7, cap7, p7, rfl, hC, hb7⟩
  have HE7 := Lib.hid (HE4.out.below hb7)
  have HB7 := Lib.hid (HB4.out.trans (hb7.mono HB4.out.size))
  have HC7 := Lib.hid hC
  clear hb7 hC HE4 HB4
  have LK := Lib.hid (show Mem6 w (w7.alloc (.cells #[.string o7, .string nm7, .int .i64 n7, .slice A7 ll7 cap7, .int .i64 p7] 25)) w3.heap.size w7.heap.size ⟨o3, nm3, n3, A3, ll3, cap3, p3⟩ ⟨o7, nm7, n7, A7, ll7, cap7, p7⟩ e0 x0 _ _ from ⟨HE7.out.below ((Below.refl _ _).alloc (Nat.le_refl _) _), (Box.new w7 _ _ _ _ _).at5 (v := ⟨o7, nm7, n7, A7, ll7, cap7, p7⟩) ((HC7.out.wide (fun j _ hj => hj.2)).alloc _), HB7.out.alloc HB7.out.size _, (HG.out.below (HB7.out.alloc HB7.out.size _)).t, HX.out.1, HX.out.2.1, HX.out.2.2.1, HX.out.2.2.2⟩)
  clear HE7 HB7 HC7
  go_wp2_with fail
  have lk := LK.out
  clear LK
  generalize w7.alloc (.cells #[.string o7, .string nm7, .int .i64 n7, .slice A7 ll7 cap7, .int .i64 p7] 25) = W at lk ⊢
  generalize w7.heap.size = bX at lk ⊢
  generalize w3.heap.size = bE at lk ⊢
  generalize (⟨o3, nm3, n3, A3, ll3, cap3, p3⟩ : XV) = vE at lk ⊢
  generalize (⟨o7, nm7, n7, A7, ll7, cap7, p7⟩ : XV) = vX at lk ⊢
  obtain rfl := HT.out
  replace lk := lk.drew
  have g5 : ((⟨(shw e0).toArray⟩ : ByteArray).toList == (⟨(shw e0).toArray⟩ : ByteArray).toList) = true := by simp
  go_region_held3 (fun w' => w'.cell? ⟨bE, 0, none⟩ = some (.string vE.o) ∧ w'.cell? ⟨bE, 1, none⟩ = some (.string vE.nm) ∧ w'.cell? ⟨bE, 2, none⟩ = some (.int .i64 vE.n) ∧ w'.cell? ⟨bE, 3, none⟩ = some (.slice vE.A vE.ll vE.cap) ∧ w'.cell? ⟨bE, 4, none⟩ = some (.int .i64 vE.p) ∧ w'.cell? ⟨bX, 0, none⟩ = some (.string vX.o) ∧ w'.cell? ⟨bX, 1, none⟩ = some (.string vX.nm) ∧ w'.cell? ⟨bX, 2, none⟩ = some (.int .i64 vX.n) ∧ w'.cell? ⟨bX, 3, none⟩ = some (.slice vX.A vX.ll vX.cap) ∧ w'.cell? ⟨bX, 4, none⟩ = some (.int .i64 vX.p)) (exact lk.S) (first
    | (go_at_call 22; (with_reducible refine (lk.same1).mono ?_); rintro e wA ⟨rfl, lk⟩)
    | (go_at_call 22; (with_reducible refine (lk.same2).mono ?_); rintro e wA ⟨rfl, lk⟩)
    | (go_at_call 18; (with_reducible refine (lk.print).mono ?_); rintro e wA ⟨rfl, lk⟩)
    | (go_at_call 20; (with_reducible refine (lk.size1).mono ?_); rintro e wA ⟨rfl, lk⟩)
    | (go_at_call 20; (with_reducible refine (lk.size2).mono ?_); rintro e wA ⟨rfl, lk⟩))
  all_goals go_wp2
  all_goals go_ret
  all_goals exact ⟨rfl, lk.b⟩
set_option maxRecDepth 100000 in
theorem back_yes (s : ByteArray) (d : Int) (w : World) (hG : GlobT w) (hs : s.size ≤ 140737488355328) : Calls Tryz.prog 4 #[.string s, .int .i64 d] w (LawF w) := by
  have H0 := Lib.hid (alive_yes w hG)
  by_cases h : 3000 < s.size
  · have g1 : decide (3000 < (s.size : Int)) = true := by simp; omega
    clear h hG
    go_enter Tryz.func4, Tryz.ntmps4
    go_wp2_with fail
    with_reducible refine (H0.out).mono ?_
    rintro e w1 ⟨rfl, hb1⟩
    go_wp2
    go_ret
    exact ⟨rfl, hb1⟩
  · rcases fails_or s d with hF | ⟨D, e, r, rfl, h1, h2, hp⟩
    · have g1 : decide (3000 < (s.size : Int)) = false := by simp; omega
      have H2 := Lib.hid (fun (W : World) (hW : GlobT W) => parse_fails W hW.s (by omega) hF)
      have HG := Lib.hid hG
      clear h hG hF
      go_enter Tryz.func4, Tryz.ntmps4
      go_wp2_with fail
      with_reducible refine (H0.out).mono ?_
      rintro e w1 ⟨rfl, hb1⟩
      have HB1 := Lib.hid hb1
      clear hb1
      go_wp2_with fail
      refine (H2.out _ (HG.out.below HB1.out)).mono ?_
      rintro e w2 ⟨t, v, rfl, hb2⟩
      have HB2 := Lib.hid (HB1.out.trans (hb2.mono HB1.out.size))
      clear hb2
      go_wp2
      go_ret
      exact ⟨rfl, HB2.out.alloc HB2.out.size _⟩
    · exact back_ok s D w hG (by omega) h1 h2 hp
end Go.Proofs.YtejpgdkmflihaaaGreatDoor
