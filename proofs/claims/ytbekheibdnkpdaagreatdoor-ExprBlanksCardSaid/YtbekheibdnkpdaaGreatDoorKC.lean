/-
  ExprParens, walked.
-/
import Derived.Test.YtbekheibdnkpdaaGreatDoorKB
import Derived.Test.YtbekheibdnkpdaaGreatDoorQR
namespace Go.Proofs.YtbekheibdnkpdaaGreatDoor
open Go.RowKit Go.Sort

def TotP (w : World) (e : Ending) (w' : World) : Prop := ∃ o nm n A ll cap p g, e = .returned (.tuple #[.agg #[.string o, .string nm, .int .i64 n, .slice A ll cap, .int .i64 p], g]) ∧ (g = .nilIface ∨ ∃ t v, g = .iface t v) ∧ Below w.heap.size w w'
theorem parse_tot {s : ByteArray} {d : Int} (w : World) (hG : GlobS w) (hs : s.size ≤ 65536) : Calls Tryz.prog 10 #[.string s, .int .i64 d] w (TotP w) := by
  rcases fails_or s d with h | ⟨D, e, r, rfl, h1, h2, hp⟩
  · exact (parse_fails w hG hs h).mono fun _ _ ⟨t, v, h1, h2⟩ => ⟨_, _, _, _, _, _, _, _, h1, .inr ⟨t, v, rfl⟩, h2⟩
  · have := parse_any (s := s) w hG hs h1 h2
    rw [hp] at this
    exact this.mono fun _ _ ⟨o, nm, n, A, l, cap, p, h1, _, h2⟩ => ⟨_, _, _, _, _, _, _, _, h1, .inl rfl, h2⟩
/-- One with two kids, in memory. -/
theorem bin_view {w : World} {S : Nat → Prop} {op : List UInt8} {a b : Ex} {q : Nat} {o nm : ByteArray} {n : Int} {A : Option Addr} {ll cap : Nat} {p : Int} (h : HS w 25 S (.bin op a b q) (exC o nm n A ll cap p)) :
    ll = 2 ∧ o = ⟨op.toArray⟩ ∧ ∃ g, A = some ⟨g, 0, none⟩ ∧ g < w.heap.size ∧ (∃ o1 nm1 n1 A1 ll1 cap1 p1, HS w 25 S a (exC o1 nm1 n1 A1 ll1 cap1 p1) ∧ w.cell? ⟨g, 0, none⟩ = some (.string o1) ∧ w.cell? ⟨g, 1, none⟩ = some (.string nm1) ∧ w.cell? ⟨g, 2, none⟩ = some (.int .i64 n1) ∧ w.cell? ⟨g, 3, none⟩ = some (.slice A1 ll1 cap1) ∧ w.cell? ⟨g, 4, none⟩ = some (.int .i64 p1)) ∧
      (∃ o2 nm2 n2 A2 ll2 cap2 p2, HS w 25 S b (exC o2 nm2 n2 A2 ll2 cap2 p2) ∧ w.cell? ⟨g, 5, none⟩ = some (.string o2) ∧ w.cell? ⟨g, 6, none⟩ = some (.string nm2) ∧ w.cell? ⟨g, 7, none⟩ = some (.int .i64 n2) ∧ w.cell? ⟨g, 8, none⟩ = some (.slice A2 ll2 cap2) ∧ w.cell? ⟨g, 9, none⟩ = some (.int .i64 p2)) := by
  have ho := h.opn
  obtain ⟨A', cap', h1, hk⟩ := h.view
  simp only [exC, List.cons.injEq, Value.slice.injEq] at h1
  obtain ⟨g, o1, nm1, n1, A1, ll1, cap1, p1, e1, hg, hH1, a0, a1, a2, a3, a4⟩ := hk 0 (by simp [Ex.kids])
  obtain ⟨g', o2, nm2, n2, A2, ll2, cap2, p2, e2, hg', hH2, d0, d1, d2, d3, d4⟩ := hk 1 (by simp [Ex.kids])
  have : g' = g := by rw [e1] at e2; simpa using e2.symm
  subst this
  exact ⟨h1.2.2.2.1.2.1, ho, g', h1.2.2.2.1.1.trans e1, hg, ⟨o1, nm1, n1, A1, ll1, cap1, p1, hH1, a0, a1, a2, a3, a4⟩, ⟨o2, nm2, n2, A2, ll2, cap2, p2, hH2, d0, d1, d2, d3, d4⟩⟩
theorem num_view {w : World} {S : Nat → Prop} {k q : Nat} {o nm : ByteArray} {n : Int} {A : Option Addr} {ll cap : Nat} {p : Int} (h : HS w 25 S (.leaf opNum [] k q) (exC o nm n A ll cap p)) : n = (k : Int) := by
  simp only [HS, exC, List.cons.injEq, Value.int.injEq] at h
  exact h.2.2.1.2
def skipC (s t : ByteArray) (d : Int) : Bool := decide (2000 < (s.size : Int) + (t.size : Int)) || decide (d < 1) || decide (60 < d) || cmt s.data.toList || cmt t.data.toList
set_option maxHeartbeats 1000000 in
set_option maxRecDepth 100000 in
theorem parens_skip (s t : ByteArray) (d : Int) (w : World) (hG : GlobT w) (hs : s.size ≤ 140737488355328) (ht : t.size ≤ 140737488355328) (h : skipC s t d = true) : Calls Tryz.prog 7 #[.string s, .string t, .int .i64 d] w (LawF w) := by
  have H0 := Lib.hid (alive_yes w hG)
  clear hG
  cases g1 : decide (2000 < (s.size : Int) + (t.size : Int)) with
  | true =>
    clear h
    go_enter Tryz.func7, Tryz.ntmps7
    go_wp2_with fail
    with_reducible refine (H0.out).mono ?_
    rintro e w1 ⟨rfl, hb1⟩
    go_wp2
    go_ret
    exact ⟨rfl, hb1⟩
  | false =>
    have hsz : s.size + t.size ≤ 2000 := by simp at g1; omega
    have H1 := Lib.hid (comment_any s (by omega))
    have H2 := Lib.hid (comment_any t (by omega))
    cases g2 : decide (d < 1) with
    | true =>
      clear h
      go_enter Tryz.func7, Tryz.ntmps7
      go_wp2_with fail
      with_reducible refine (H0.out).mono ?_
      rintro e w1 ⟨rfl, hb1⟩
      go_wp2
      go_ret
      exact ⟨rfl, hb1⟩
    | false =>
      cases g3 : decide (60 < d) with
      | true =>
        clear h
        go_enter Tryz.func7, Tryz.ntmps7
        go_wp2_with fail
        with_reducible refine (H0.out).mono ?_
        rintro e w1 ⟨rfl, hb1⟩
        go_wp2
        go_ret
        exact ⟨rfl, hb1⟩
      | false =>
        cases g4 : cmt s.data.toList with
        | true =>
          rw [g4] at H1
          clear h g4
          go_enter Tryz.func7, Tryz.ntmps7
          go_wp2_with fail
          with_reducible refine (H0.out).mono ?_
          rintro e w1 ⟨rfl, hb1⟩
          go_wp2_with fail
          with_reducible refine (H1.out _).mono ?_
          rintro e w2 ⟨rfl, rfl⟩
          go_wp2
          go_ret
          exact ⟨rfl, hb1⟩
        | false =>
          have g5 : cmt t.data.toList = true := by simpa [skipC, g1, g2, g3, g4] using h
          rw [g4] at H1
          rw [g5] at H2
          clear h g4 g5
          go_enter Tryz.func7, Tryz.ntmps7
          go_wp2_with fail
          with_reducible refine (H0.out).mono ?_
          rintro e w1 ⟨rfl, hb1⟩
          go_wp2_with fail
          with_reducible refine (H1.out _).mono ?_
          rintro e w2 ⟨rfl, rfl⟩
          go_wp2_with fail
          with_reducible refine (H2.out _).mono ?_
          rintro e w2 ⟨rfl, rfl⟩
          go_wp2
          go_ret
          exact ⟨rfl, hb1⟩
/-- What all the ways share. -/
structure Goes (s t : ByteArray) (D : Nat) : Prop where
  len : s.size + t.size ≤ 2000
  d1 : 1 ≤ D
  d60 : D ≤ 60
  cs : cmt s.data.toList = false
  ct : cmt t.data.toList = false
set_option maxHeartbeats 2000000 in
set_option maxRecDepth 100000 in
theorem parens_fail (s t : ByteArray) (D : Nat) (w : World) (hG : GlobT w) (hx : Goes s t D) (hF : Fails s (D : Int)) : Calls Tryz.prog 7 #[.string s, .string t, .int .i64 (D : Int)] w (LawF w) := by
  have H0 := Lib.hid (alive_yes w hG)
  have hl := hx.len
  have hd1 := hx.d1
  have hd60 := hx.d60
  have H1 := Lib.hid (comment_any s (by omega))
  rw [hx.cs] at H1
  have H2 := Lib.hid (comment_any t (by omega))
  rw [hx.ct] at H2
  have g1 : decide (2000 < (s.size : Int) + (t.size : Int)) = false := by simp; omega
  have g2 : decide ((D : Int) < 1) = false := by simp; omega
  have g2' : decide (D < 1) = false := by simp; omega
  have g3 : decide (60 < (D : Int)) = false := by simp; omega
  have g3' : decide (60 < D) = false := by simp; omega
  have HG := Lib.hid hG
  have H3 := Lib.hid (fun (W : World) (hW : GlobT W) => parse_fails W hW.s (by omega) hF)
  have H4 := Lib.hid (fun (W : World) (hW : GlobT W) => parse_tot (s := ⟨#[40]⟩ ++ s ++ ⟨#[41]⟩) (d := (D : Int) + 1) W hW.s (by simp only [ByteArray.size_append]; show 1 + s.size + 1 ≤ _; omega))
  have H5 := Lib.hid (fun (W : World) (hW : GlobT W) => parse_tot (s := t) (d := (D : Int)) W hW.s (by omega))
  clear hG hF
  clear hx
  go_enter Tryz.func7, Tryz.ntmps7
  go_wp2_with fail
  with_reducible refine (H0.out).mono ?_
  rintro e w1 ⟨rfl, hb1⟩
  have HB1 := Lib.hid hb1
  clear hb1
  go_wp2_with fail
  with_reducible refine (H1.out _).mono ?_
  rintro e w2 ⟨rfl, rfl⟩
  go_wp2_with fail
  with_reducible refine (H2.out _).mono ?_
  rintro e w2 ⟨rfl, rfl⟩
  go_wp2_with fail
  refine (H3.out _ (HG.out.below HB1.out)).mono ?_
  rintro e w3 ⟨ty, vv, rfl, hb3⟩
  have HB3 := Lib.hid ((HB1.out.trans (hb3.mono HB1.out.size)).alloc (Nat.le_trans HB1.out.size hb3.size) (.cells #[.string ⟨#[]⟩, .string ⟨#[]⟩, .int .i64 0, .slice none 0 0, .int .i64 0] 25))
  clear hb3
  go_wp2_with fail
  refine (H4.out _ (HG.out.below HB3.out)).mono ?_
  rintro e w4 ⟨o4, nm4, n4, A4, ll4, cap4, p4, g, rfl, hg, hb4⟩
  have HB4 := Lib.hid ((HB3.out.trans (hb4.mono HB3.out.size)).alloc (Nat.le_trans HB3.out.size hb4.size) (.cells #[.string o4, .string nm4, .int .i64 n4, .slice A4 ll4 cap4, .int .i64 p4] 25))
  clear hb4
  rcases hg with rfl | ⟨t', v', rfl⟩
  · go_wp2_with fail
    refine (H5.out _ (HG.out.below HB4.out)).mono ?_
    rintro e w5 ⟨o5, nm5, n5, A5, ll5, cap5, p5, g, rfl, hg, hb5⟩
    have HB5 := Lib.hid ((HB4.out.trans (hb5.mono HB4.out.size)).alloc (Nat.le_trans HB4.out.size hb5.size) (.cells #[.string o5, .string nm5, .int .i64 n5, .slice A5 ll5 cap5, .int .i64 p5] 25))
    clear hb5
    rcases hg with rfl | ⟨t', v', rfl⟩
    · go_wp2
      go_ret
      exact ⟨rfl, HB5.out⟩
    · go_wp2
      go_ret
      exact ⟨rfl, HB5.out⟩
  · go_wp2_with fail
    refine (H5.out _ (HG.out.below HB4.out)).mono ?_
    rintro e w5 ⟨o5, nm5, n5, A5, ll5, cap5, p5, g, rfl, hg, hb5⟩
    have HB5 := Lib.hid ((HB4.out.trans (hb5.mono HB4.out.size)).alloc (Nat.le_trans HB4.out.size hb5.size) (.cells #[.string o5, .string nm5, .int .i64 n5, .slice A5 ll5 cap5, .int .i64 p5] 25))
    clear hb5
    rcases hg with rfl | ⟨t', v', rfl⟩
    · go_wp2
      go_ret
      exact ⟨rfl, HB5.out⟩
    · go_wp2
      go_ret
      exact ⟨rfl, HB5.out⟩
end Go.Proofs.YtbekheibdnkpdaaGreatDoor
