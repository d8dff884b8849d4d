/-
  PropParens, walked: the ways where s or t isn't read.
-/
import Derived.Test.YtgplpomekplfbaaGreatDoorJm
import Derived.Test.YtgplpomekplfbaaGreatDoorJn
import Derived.Test.YtgplpomekplfbaaGreatDoorJ5
import Derived.Test.YtgplpomekplfbaaGreatDoorJ7
namespace Go.Proofs.YtgplpomekplfbaaGreatDoor
open Go.RowKit Go.Sort

def TotF (w : World) (e : Ending) (w' : World) : Prop := ∃ (v : FV) (g : Value), e = .returned (.tuple #[.agg #[.string v.o, .string v.nm, .slice v.A v.ll v.cap, .int .i64 v.p], g]) ∧ (g = .nilIface ∨ ∃ t v, g = .iface t v) ∧ Below w.heap.size w w'
theorem pparse_tot {s : ByteArray} {D : Nat} (w : World) (hG : GlobS w) (hs : s.size ≤ 65536) (h1 : 1 ≤ D) (h64 : D ≤ 64) : Calls Tryz.prog 13 #[.string s, .int .i64 (D : Int)] w (TotF w) := by
  have h := pparse_any (s := s) w hG hs h1 h64
  refine h.mono fun e w' hq => ?_
  unfold PFQ at hq
  cases hp : parseF D s.data.toList with
  | ok f =>
    rw [hp] at hq
    obtain ⟨v, h1, _, h2⟩ := hq
    exact ⟨v, _, h1, .inl rfl, h2⟩
  | er c p =>
    rw [hp] at hq
    obtain ⟨b, h1, _, h2⟩ := hq
    exact ⟨fv0, _, h1, .inr ⟨_, _, rfl⟩, h2⟩
def FailF (w : World) (e : Ending) (w' : World) : Prop := ∃ t v, e = .returned (.tuple #[.agg #[.string ⟨#[]⟩, .string ⟨#[]⟩, .slice none 0 0, .int .i64 0], .iface t v]) ∧ Below w.heap.size w w'
theorem pparse_fail {s : ByteArray} {D : Nat} (w : World) (hG : GlobS w) (hs : s.size ≤ 65536) (h1 : 1 ≤ D) (h64 : D ≤ 64) {c p : Nat} (hp : parseF D s.data.toList = .er c p) : Calls Tryz.prog 13 #[.string s, .int .i64 (D : Int)] w (FailF w) := by
  have h := pparse_any (s := s) w hG hs h1 h64
  rw [hp] at h
  exact h.mono fun _ _ ⟨b, h1, _, h2⟩ => ⟨_, _, h1, h2⟩
def skipF (s t : ByteArray) (d : Int) : Bool := decide (1000 < (s.size : Int) + (t.size : Int)) || decide (d < 1) || decide (60 < d) || cmt s.data.toList || cmt t.data.toList
set_option maxHeartbeats 1000000 in
set_option maxRecDepth 100000 in
theorem pparens_skip (s t : ByteArray) (d : Int) (w : World) (hG : GlobS w) (hs : s.size ≤ 140737488355328) (ht : t.size ≤ 140737488355328) (h : skipF s t d = true) : Calls Tryz.prog 6 #[.string s, .string t, .int .i64 d] w (LawF w) := by
  have H0 := Lib.hid (palive_yes w hG)
  clear hG
  cases g1 : decide (1000 < (s.size : Int) + (t.size : Int)) with
  | true =>
    clear h
    go_enter Tryz.func6, Tryz.ntmps6
    go_wp2_with fail
    with_reducible refine (H0.out).mono ?_
    rintro e w1 ⟨rfl, hb1⟩
    go_wp2
    go_ret
    exact ⟨rfl, hb1⟩
  | false =>
    have hsz : s.size + t.size ≤ 1000 := by simp at g1; omega
    have H1 := Lib.hid (pquiet_any s (by omega))
    have H2 := Lib.hid (pquiet_any t (by omega))
    cases g2 : decide (d < 1) with
    | true =>
      clear h
      go_enter Tryz.func6, Tryz.ntmps6
      go_wp2_with fail
      with_reducible refine (H0.out).mono ?_
      rintro e w1 ⟨rfl, hb1⟩
      go_wp2
      go_ret
      exact ⟨rfl, hb1⟩
    | false =>
      cases g3 : decide (60 < d) with
      | true =>
        clear h
        go_enter Tryz.func6, Tryz.ntmps6
        go_wp2_with fail
        with_reducible refine (H0.out).mono ?_
        rintro e w1 ⟨rfl, hb1⟩
        go_wp2
        go_ret
        exact ⟨rfl, hb1⟩
      | false =>
        cases g4 : cmt s.data.toList with
        | true =>
          rw [g4] at H1
          clear h g4
          go_enter Tryz.func6, Tryz.ntmps6
          go_wp2_with fail
          with_reducible refine (H0.out).mono ?_
          rintro e w1 ⟨rfl, hb1⟩
          go_wp2_with fail
          with_reducible refine (H1.out _).mono ?_
          rintro e w2 ⟨rfl, rfl⟩
          go_wp2
          go_ret
          exact ⟨rfl, hb1⟩
        | false =>
          have g5 : cmt t.data.toList = true := by simpa [skipF, g1, g2, g3, g4] using h
          rw [g4] at H1
          rw [g5] at H2
          clear h g4 g5
          go_enter Tryz.func6, Tryz.ntmps6
          go_wp2_with fail
          with_reducible refine (H0.out).mono ?_
          rintro e w1 ⟨rfl, hb1⟩
          go_wp2_with fail
          with_reducible refine (H1.out _).mono ?_
          rintro e w2 ⟨rfl, rfl⟩
          go_wp2_with fail
          with_reducible refine (H2.out _).mono ?_
          rintro e w2 ⟨rfl, rfl⟩
          go_wp2
          go_ret
          exact ⟨rfl, hb1⟩
/-- What all the ways share. -/
structure GoesF (s t : ByteArray) (D : Nat) : Prop where
  len : s.size + t.size ≤ 1000
  d1 : 1 ≤ D
  d60 : D ≤ 60
  cs : cmt s.data.toList = false
  ct : cmt t.data.toList = false
set_option maxHeartbeats 2000000 in
set_option maxRecDepth 100000 in
theorem pparens_fail (s t : ByteArray) (D : Nat) (w : World) (hG : GlobS w) (hx : GoesF s t D) {c q : Nat} (hF : parseF D s.data.toList = .er c q) : Calls Tryz.prog 6 #[.string s, .string t, .int .i64 (D : Int)] w (LawF w) := by
  have H0 := Lib.hid (palive_yes w hG)
  have hl := hx.len
  have hd1 := hx.d1
  have hd60 := hx.d60
  have H1 := Lib.hid (pquiet_any s (by omega))
  rw [hx.cs] at H1
  have H2 := Lib.hid (pquiet_any t (by omega))
  rw [hx.ct] at H2
  have g1 : decide (1000 < (s.size : Int) + (t.size : Int)) = false := by simp; omega
  have g2 : decide ((D : Int) < 1) = false := by simp; omega
  have g2' : decide (D < 1) = false := by simp; omega
  have g3 : decide (60 < (D : Int)) = false := by simp; omega
  have g3' : decide (60 < D) = false := by simp; omega
  have HG := Lib.hid hG
  have H3 := Lib.hid (fun (W : World) (hW : GlobS W) => pparse_fail W hW (by omega) hx.d1 (by omega) hF)
  have H4 := Lib.hid (fun (W : World) (hW : GlobS W) => pparse_tot (s := ⟨#[40]⟩ ++ s ++ ⟨#[41]⟩) (D := D + 1) W hW (by simp only [ByteArray.size_append]; show 1 + s.size + 1 ≤ _; omega) (by omega) (by omega))
  have H5 := Lib.hid (fun (W : World) (hW : GlobS W) => pparse_tot (s := t) (D := D) W hW (by omega) hx.d1 (by omega))
  clear hG hF
  clear hx
  go_enter Tryz.func6, Tryz.ntmps6
  go_wp2_with fail
  with_reducible refine (H0.out).mono ?_
  rintro e w1 ⟨rfl, hb1⟩
  have HB1 := Lib.hid hb1
  clear hb1
  go_wp2_with fail
  with_reducible refine (H1.out _).mono ?_
  rintro e w2 ⟨rfl, rfl⟩
  go_wp2_with fail
  with_reducible refine (H2.out _).mono ?_
  rintro e w2 ⟨rfl, rfl⟩
  go_wp2_with fail
  refine (H3.out _ (HG.out.below HB1.out)).mono ?_
  rintro e w3 ⟨ty, vv, rfl, hb3⟩
  have HB3 := Lib.hid ((HB1.out.trans (hb3.mono HB1.out.size)).alloc (Nat.le_trans HB1.out.size hb3.size) (.cells #[.string ⟨#[]⟩, .string ⟨#[]⟩, .slice none 0 0, .int .i64 0] 42))
  clear hb3
  go_wp2_with fail
  refine (H4.out _ (HG.out.below HB3.out)).mono ?_
  rintro e w4 ⟨v4, g, rfl, hg, hb4⟩
  have HB4 := Lib.hid ((HB3.out.trans (hb4.mono HB3.out.size)).alloc (Nat.le_trans HB3.out.size hb4.size) (.cells #[.string v4.o, .string v4.nm, .slice v4.A v4.ll v4.cap, .int .i64 v4.p] 42))
  clear hb4
  rcases hg with rfl | ⟨t', v', rfl⟩
  · go_wp2_with fail
    refine (H5.out _ (HG.out.below HB4.out)).mono ?_
    rintro e w5 ⟨v5, g, rfl, hg, hb5⟩
    have HB5 := Lib.hid ((HB4.out.trans (hb5.mono HB4.out.size)).alloc (Nat.le_trans HB4.out.size hb5.size) (.cells #[.string v5.o, .string v5.nm, .slice v5.A v5.ll v5.cap, .int .i64 v5.p] 42))
    clear hb5
    rcases hg with rfl | ⟨t', v', rfl⟩
    · go_wp2
      go_ret
      exact ⟨rfl, HB5.out⟩
    · go_wp2
      go_ret
      exact ⟨rfl, HB5.out⟩
  · go_wp2_with fail
    refine (H5.out _ (HG.out.below HB4.out)).mono ?_
    rintro e w5 ⟨v5, g, rfl, hg, hb5⟩
    have HB5 := Lib.hid ((HB4.out.trans (hb5.mono HB4.out.size)).alloc (Nat.le_trans HB4.out.size hb5.size) (.cells #[.string v5.o, .string v5.nm, .slice v5.A v5.ll v5.cap, .int .i64 v5.p] 42))
    clear hb5
    rcases hg with rfl | ⟨t', v', rfl⟩
    · go_wp2
      go_ret
      exact ⟨rfl, HB5.out⟩
    · go_wp2
      go_ret
      exact ⟨rfl, HB5.out⟩
set_option maxHeartbeats 4000000 in
set_option maxRecDepth 100000 in
theorem pparens_mid (s t : ByteArray) (D : Nat) (w : World) (hG : GlobS w) (hx : GoesF s t D) {f0 : Fo} (hp : parseF D s.data.toList = .ok f0) {c q : Nat} (hF : parseF D t.data.toList = .er c q) : Calls Tryz.prog 6 #[.string s, .string t, .int .i64 (D : Int)] w (LawF w) := by
  have H0 := Lib.hid (palive_yes w hG)
  have hl := hx.len
  have hd1 := hx.d1
  have hd60 := hx.d60
  have H1 := Lib.hid (pquiet_any s (by omega))
  rw [hx.cs] at H1
  have H2 := Lib.hid (pquiet_any t (by omega))
  rw [hx.ct] at H2
  have g1 : decide (1000 < (s.size : Int) + (t.size : Int)) = false := by simp; omega
  have g2 : decide ((D : Int) < 1) = false := by simp; omega
  have g2' : decide (D < 1) = false := by simp; omega
  have g3 : decide (60 < (D : Int)) = false := by simp; omega
  have g3' : decide (60 < D) = false := by simp; omega
  have HG := Lib.hid hG
  have hsl : s.data.toList.length = s.size := by simp
  have htl : t.data.toList.length = t.size := by simp
  obtain ⟨x0, hpx, hbx⟩ := paren_sameF (by omega) hx.cs hp
  have H3 := Lib.hid (fun (W : World) (hW : GlobS W) => pparse_any (s := s) W hW (by omega) hx.d1 (by omega))
  rw [hp] at H3
  have H4 := Lib.hid (fun (W : World) (hW : GlobS W) => pparse_any (s := ⟨#[40]⟩ ++ s ++ ⟨#[41]⟩) (D := D + 1) W hW (by simp only [ByteArray.size_append]; show 1 + s.size + 1 ≤ _; omega) (by omega) (by omega))
  rw [show (⟨#[40]⟩ ++ s ++ ⟨#[41]⟩ : ByteArray).data.toList = 40 :: (s.data.toList ++ [41]) by simp, hpx] at H4
  have HBX := Lib.hid hbx
  clear hbx hpx hsl htl
  have H5 := Lib.hid (fun (W : World) (hW : GlobS W) => pparse_fail W hW (by omega) hx.d1 (by omega) hF)
  clear hG hF hp
  clear hx
  go_enter Tryz.func6, Tryz.ntmps6
  go_wp2_with fail
  with_reducible refine (H0.out).mono ?_
  rintro e w1 ⟨rfl, hb1⟩
  have HB1 := Lib.hid hb1
  clear hb1
  go_wp2_with fail
  with_reducible refine (H1.out _).mono ?_
  rintro e w2 ⟨rfl, rfl⟩
  go_wp2_with fail
  with_reducible refine (H2.out _).mono ?_
  rintro e w2 ⟨rfl, rfl⟩
  go_wp2_with fail
  refine (H3.out _ (HG.out.below HB1.out)).mono ?_
  rintro e w3 ⟨v3, rfl, hC, hb3⟩
  have HB3 := Lib.hid (HB1.out.trans (hb3.mono HB1.out.size))
  have HC3 := Lib.hid (show FS w3 42 _ f0 v3.c from hC)
  clear hb3 hC
  go_wp2_with fail
  refine calls_gen (P := fun W => At4 W w3.heap.size 0 v3 f0 (fun j => j < w3.heap.size) ∧ Below w.heap.size w W) ⟨at4_new (HC3.out.wide (fun j _ hj => hj.2)), HB3.out.alloc HB3.out.size _⟩ ?_
  rintro W ⟨hE, hB⟩
  refine (H4.out _ (HG.out.below hB)).mono ?_
  rintro e w4 ⟨v4, rfl, hC, hb4⟩
  have HE4 := Lib.hid (hE.below hb4)
  have HB4 := Lib.hid (hB.trans (hb4.mono hB.size))
  have HC4 := Lib.hid (show FS w4 42 _ x0 v4.c from hC)
  clear hE hB hb4 hC HC3 HB3
  have ⟨hlE, hE0, hE1, hE2, hE3, _⟩ := HE4.out
  simp only [Nat.zero_add] at hE1 hE2 hE3
  go_wp2_with fail
  refine (fsame_any f0 x0 _ _ _ _ _ (HE4.out.fs.alloc _) (HC4.out.alloc _)).mono ?_
  rintro e w6 ⟨rfl, hb6⟩
  have hba := (Below.refl w4.heap.size w4).alloc (Nat.le_refl _) (.cells #[.string v4.o, .string v4.nm, .slice v4.A v4.ll v4.cap, .int .i64 v4.p] 42)
  have HE6 := Lib.hid ((HE4.out.below hba).below hb6)
  have HB6 := Lib.hid ((HB4.out.alloc HB4.out.size _).trans (hb6.mono (by simp; have := HB4.out.size; omega)))
  rw [decide_eq_true HBX.out.symm]
  clear hb6 hba hlE hE0 hE1 hE2 hE3 HE4 HB4 HC4
  go_wp2_with fail
  refine (H5.out _ (HG.out.below HB6.out)).mono ?_
  rintro e w7 ⟨ty, vv, rfl, hb7⟩
  have HB7 := Lib.hid ((HB6.out.trans (hb7.mono HB6.out.size)).alloc (Nat.le_trans HB6.out.size hb7.size) (.cells #[.string ⟨#[]⟩, .string ⟨#[]⟩, .slice none 0 0, .int .i64 0] 42))
  clear hb7 HE6
  go_wp2
  go_ret
  exact ⟨rfl, HB7.out⟩
end Go.Proofs.YtgplpomekplfbaaGreatDoor
