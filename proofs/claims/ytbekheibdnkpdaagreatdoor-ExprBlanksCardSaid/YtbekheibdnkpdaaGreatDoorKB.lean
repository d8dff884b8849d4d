/-
  ExprReads, walked.
-/
import Derived.Test.YtbekheibdnkpdaaGreatDoorKA
namespace Go.Proofs.YtbekheibdnkpdaaGreatDoor
open Go.RowKit Go.Sort

/-- A text that isn't read at that depth. -/
def Fails (s : ByteArray) (d : Int) : Prop := (d < 1 ∨ 64 < d) ∨ ∃ (D : Nat) (c q : Nat), d = (D : Int) ∧ 1 ≤ D ∧ D ≤ 64 ∧ parseX D s.data.toList = .er c q
def FailP (w : World) (e : Ending) (w' : World) : Prop := ∃ t v, e = .returned (.tuple #[.agg #[.string ⟨#[]⟩, .string ⟨#[]⟩, .int .i64 0, .slice none 0 0, .int .i64 0], .iface t v]) ∧ Below w.heap.size w w'
theorem parse_fails {s : ByteArray} {d : Int} (w : World) (hG : GlobS w) (hs : s.size ≤ 65536) (h : Fails s d) : Calls Tryz.prog 10 #[.string s, .int .i64 d] w (FailP w) := by
  rcases h with h | ⟨D, c, q, rfl, h1, h2, h3⟩
  · exact (parse_bad s d w h).mono fun _ _ ⟨h1, h2⟩ => ⟨_, _, h1, h2⟩
  · have := parse_any (s := s) w hG hs h1 h2
    rw [h3] at this
    exact this.mono fun _ _ ⟨b, h1, _, _, h2⟩ => ⟨_, _, h1, h2⟩
theorem fails_or (s : ByteArray) (d : Int) : Fails s d ∨ ∃ (D : Nat) (e : Ex) (r : List Tok), d = (D : Int) ∧ 1 ≤ D ∧ D ≤ 64 ∧ parseX D s.data.toList = .ok e r := by
  by_cases h : d < 1 ∨ 64 < d
  · exact .inl (.inl h)
  · obtain ⟨D, rfl⟩ : ∃ D : Nat, d = (D : Int) := ⟨d.toNat, by omega⟩
    cases hp : parseX D s.data.toList with
    | er c q => exact .inl (.inr ⟨D, c, q, rfl, by omega, by omega, hp⟩)
    | ok e r => exact .inr ⟨D, e, r, rfl, by omega, by omega, hp⟩
def NewP (w : World) (e : Ending) (w' : World) : Prop := ∃ r g, e = .returned (.tuple #[.pointer r, g]) ∧ (g = .nilIface ∨ ∃ t v, g = .iface t v) ∧ Below w.heap.size w w'
theorem new_any {s : ByteArray} (w : World) (hG : GlobS w) (hs : s.size ≤ 65536) : Calls Tryz.prog 22 #[.string s] w (NewP w) := by
  cases h : toks s.data.toList with
  | error x =>
    obtain ⟨x, p⟩ := x
    exact (new_erX w hG hs h).mono fun _ _ ⟨b, h1, _, _, _, h2⟩ => ⟨_, _, h1, .inr ⟨_, _, rfl⟩, h2⟩
  | ok ts => exact (new_tr w hG hs h).mono fun _ _ ⟨b, h1, _, _, h2⟩ => ⟨_, _, h1, .inl rfl, h2⟩
theorem ereads_long (s t : ByteArray) (d : Int) (w : World) (hG : GlobT w) (hs : s.size ≤ 140737488355328) (ht : t.size ≤ 140737488355328) (h : 3000 < s.size + t.size) : Calls Tryz.prog 5 #[.string s, .string t, .int .i64 d] w (LawF w) := by
  have H0 := Lib.hid (alive_yes w hG)
  have g1 : decide (3000 < (s.size : Int) + (t.size : Int)) = true := by simp; omega
  clear hG h
  go_enter Tryz.func5, Tryz.ntmps5
  go_wp2_with fail
  with_reducible refine (H0.out).mono ?_
  rintro e w1 ⟨rfl, hb1⟩
  go_wp2
  go_ret
  exact ⟨rfl, hb1⟩
theorem ereads_comm (s t : ByteArray) (d : Int) (w : World) (hG : GlobT w) (h : s.size + t.size ≤ 3000) (hc : cmt s.data.toList = true) : Calls Tryz.prog 5 #[.string s, .string t, .int .i64 d] w (LawF w) := by
  have H0 := Lib.hid (alive_yes w hG)
  have H1 := Lib.hid (comment_any s (by omega))
  rw [hc] at H1
  have g1 : decide (3000 < (s.size : Int) + (t.size : Int)) = false := by simp; omega
  clear hG hc
  go_enter Tryz.func5, Tryz.ntmps5
  go_wp2_with fail
  with_reducible refine (H0.out).mono ?_
  rintro e w1 ⟨rfl, hb1⟩
  go_wp2_with fail
  with_reducible refine (H1.out _).mono ?_
  rintro e w2 ⟨rfl, rfl⟩
  go_wp2
  go_ret
  exact ⟨rfl, hb1⟩
set_option maxHeartbeats 2000000 in
set_option maxRecDepth 100000 in
theorem ereads_fail (s t : ByteArray) (d : Int) (w : World) (hG : GlobT w) (h : s.size + t.size ≤ 3000) (hc : cmt s.data.toList = false) (hF : Fails s d) : Calls Tryz.prog 5 #[.string s, .string t, .int .i64 d] w (LawF w) := by
  have H0 := Lib.hid (alive_yes w hG)
  have H1 := Lib.hid (comment_any s (by omega))
  rw [hc] at H1
  have H2 := Lib.hid (fun (W : World) (hW : GlobT W) => parse_fails W hW.s (by omega) hF)
  have H3 := Lib.hid (fun (W : World) (hW : GlobT W) => new_any (s := s ++ ⟨#[32, 59, 32]⟩ ++ t) W hW.s (by simp [ByteArray.size_append]; show s.size + 3 + t.size ≤ _; omega))
  have g1 : decide (3000 < (s.size : Int) + (t.size : Int)) = false := by simp; omega
  have HG := Lib.hid hG
  clear hG hc hF
  go_enter Tryz.func5, Tryz.ntmps5
  go_wp2_with fail
  with_reducible refine (H0.out).mono ?_
  rintro e w1 ⟨rfl, hb1⟩
  have HB1 := Lib.hid hb1
  clear hb1
  go_wp2_with fail
  with_reducible refine (H1.out _).mono ?_
  rintro e w2 ⟨rfl, rfl⟩
  go_wp2_with fail
  refine (H2.out _ (HG.out.below HB1.out)).mono ?_
  rintro e w3 ⟨ty, vv, rfl, hb3⟩
  have HB3 := Lib.hid (HB1.out.trans (hb3.mono HB1.out.size))
  clear hb3
  go_wp2_with fail
  have hba := HB3.out.alloc HB3.out.size (.cells #[.string ⟨#[]⟩, .string ⟨#[]⟩, .int .i64 0, .slice none 0 0, .int .i64 0] 25)
  refine (H3.out _ (HG.out.below hba)).mono ?_
  rintro e w4 ⟨r, g, rfl, hg, hb4⟩
  have HB4 := Lib.hid (hba.trans (hb4.mono hba.size))
  clear hb4 hba
  rcases hg with rfl | ⟨t', v', rfl⟩
  · go_wp2
    go_ret
    exact ⟨rfl, HB4.out⟩
  · go_wp2
    go_ret
    exact ⟨rfl, HB4.out⟩
set_option maxHeartbeats 4000000 in
set_option maxRecDepth 100000 in
theorem ereads_ok (s t : ByteArray) (D : Nat) (w : World) (hG : GlobT w) (h : s.size + t.size ≤ 3000) (hc : cmt s.data.toList = false) (h1 : 1 ≤ D) (h2 : D ≤ 64) {e0 : Ex} {r0 : List Tok} (hp : parseX D s.data.toList = .ok e0 r0) : Calls Tryz.prog 5 #[.string s, .string t, .int .i64 (D : Int)] w (LawF w) := by
  have H0 := Lib.hid (alive_yes w hG)
  have H1 := Lib.hid (comment_any s (by omega))
  rw [hc] at H1
  have H2 := Lib.hid (fun (W : World) (hW : GlobT W) => parse_any (s := s) W hW.s (by omega) h1 h2)
  rw [hp] at H2
  have hsz : (s ++ ⟨#[32, 59, 32]⟩ ++ t).size ≤ 65536 := by simp [ByteArray.size_append]; show s.size + 3 + t.size ≤ _; omega
  have hdl : (s ++ ⟨#[32, 59, 32]⟩ ++ t).data.toList = s.data.toList ++ 32 :: 59 :: 32 :: t.data.toList := by simp
  have g1 : decide (3000 < (s.size : Int) + (t.size : Int)) = false := by simp; omega
  have HG := Lib.hid hG
  clear hG
  cases htk : toks (s ++ ⟨#[32, 59, 32]⟩ ++ t).data.toList with
  | error x =>
    obtain ⟨x, p⟩ := x
    have H3 := Lib.hid (fun (W : World) (hW : GlobT W) => new_erX W hW.s hsz htk)
    clear hp hdl htk hc hsz
    go_enter Tryz.func5, Tryz.ntmps5
    go_wp2_with fail
    with_reducible refine (H0.out).mono ?_
    rintro e w1 ⟨rfl, hb1⟩
    have HB1 := Lib.hid hb1
    clear hb1
    go_wp2_with fail
    with_reducible refine (H1.out _).mono ?_
    rintro e w2 ⟨rfl, rfl⟩
    go_wp2_with fail
    refine (H2.out _ (HG.out.below HB1.out)).mono ?_
    rintro e w3 ⟨o, nm, n, A, ll, cap, p', rfl, hC, hb3⟩
    have HB3 := Lib.hid (HB1.out.trans (hb3.mono HB1.out.size))
    clear hb3 hC
    go_wp2_with fail
    have hba := HB3.out.alloc HB3.out.size (.cells #[.string o, .string nm, .int .i64 n, .slice A ll cap, .int .i64 p'] 25)
    refine (H3.out _ (HG.out.below hba)).mono ?_
    rintro e w4 ⟨b, rfl, _, _, _, hb4⟩
    have HB4 := Lib.hid (hba.trans (hb4.mono hba.size))
    clear hb4 hba
    go_wp2
    go_ret
    exact ⟨rfl, HB4.out⟩
  | ok ts =>
    have hro := reads_on (D := D) (by have : s.data.toList.length = s.size := by simp
                                      omega) hc hp (by rw [← hdl]; exact htk)
    obtain ⟨e1, r1, hd1, hb1, hi1⟩ := hro
    have H3 := Lib.hid (fun (W : World) (hW : GlobT W) => new_tr W hW.s hsz htk)
    have HD := Lib.hid hd1
    have HBR := Lib.hid hb1
    have HI := Lib.hid hi1
    clear hp hdl htk hc hsz hd1 hb1 hi1
    go_enter Tryz.func5, Tryz.ntmps5
    go_wp2_with fail
    with_reducible refine (H0.out).mono ?_
    rintro e w1 ⟨rfl, hb1⟩
    have HB1 := Lib.hid hb1
    clear hb1
    go_wp2_with fail
    with_reducible refine (H1.out _).mono ?_
    rintro e w2 ⟨rfl, rfl⟩
    go_wp2_with fail
    refine (H2.out _ (HG.out.below HB1.out)).mono ?_
    rintro e w3 ⟨o, nm, n, A, ll, cap, p, rfl, hC, hb3⟩
    have HB3 := Lib.hid (HB1.out.trans (hb3.mono HB1.out.size))
    have HC3 := Lib.hid hC
    clear hb3 hC
    go_wp2_with fail
    refine calls_gen (P := fun W => Box W w3.heap.size (.string o) (.string nm) (.int .i64 n) (.slice A ll cap) (.int .i64 p) ∧ HS W 25 (fun j => j < w3.heap.size) e0 (exC o nm n A ll cap p) ∧ Below w.heap.size w W) ⟨Box.new _ _ _ _ _ _, (HC3.out.wide (fun j _ hj => hj.2)).alloc _, HB3.out.alloc HB3.out.size _⟩ ?_
    rintro W ⟨hBx, hH, hB⟩
    refine (H3.out _ (HG.out.below hB)).mono ?_
    rintro e w4 ⟨rb, rfl, hrb, hT, hb4⟩
    have HBx4 := Lib.hid (hBx.below hb4)
    have HH4 := Lib.hid (hH.below hb4)
    have HT4 := Lib.hid hT
    have HB4 := Lib.hid (hB.trans (hb4.mono hB.size))
    have hbw := hBx.lt
    clear hBx hH hB hT hb4
    go_wp2_with fail
    refine (read_any w4 HT4.out h1 h2).mono ?_
    rw [HD.out]
    rintro e w5 ⟨o2, nm2, n2, A2, ll2, cap2, p2, rfl, hC5, hT5, hF5⟩
    have hBx5 := HBx4.out.fr hF5 (by omega)
    have HH5 := Lib.hid (HH4.out.frS hF5 (by omega))
    have HC5 := Lib.hid hC5
    have HT5 := Lib.hid hT5
    have hle := HB4.out.size
    have HB5 := Lib.hid (show Below w.heap.size w w5 from ((Fr.of (rb := rb) HB4.out).on HB4.out.size hF5).below (by have := HB3.out.size; omega))
    obtain ⟨b0, b1, b2, b3, b4⟩ := hBx5.cells
    have hbl5 := hBx5.lt
    clear hC5 hT5 hF5 hBx5
    go_wp2_with fail
    refine (same_any e0 e1 _ _ _ _ _ (HH5.out.alloc _) (HC5.out.alloc _)).mono ?_
    rintro e w6 ⟨rfl, hb6⟩
    have hba := (Below.refl w5.heap.size w5).alloc (Nat.le_refl _) (.cells #[.string o2, .string nm2, .int .i64 n2, .slice A2 ll2 cap2, .int .i64 p2] 25)
    have HT6 := Lib.hid ((HT5.out.below hba).below hb6)
    have HB6 := Lib.hid ((HB5.out.alloc HB5.out.size _).trans (hb6.mono (by simp; have := HB5.out.size; omega)))
    rw [decide_eq_true HBR.out.symm]
    clear hb6 hba
    go_wp2_with fail
    have hq := HT6.out.is_ ⟨#[59]⟩
    have hq2 : isT (hd r1) (⟨#[59]⟩ : ByteArray).data.toList = true := HI.out
    rw [hq2] at hq
    refine hq.mono ?_
    rintro e w7 ⟨rfl, hb7⟩
    have HB7 := Lib.hid (HB6.out.trans (hb7.mono HB6.out.size))
    clear hb7 hq hq2
    go_wp2
    go_ret
    exact ⟨rfl, HB7.out⟩
theorem ereads_yes (s t : ByteArray) (d : Int) (w : World) (hG : GlobT w) (hs : s.size ≤ 140737488355328) (ht : t.size ≤ 140737488355328) : Calls Tryz.prog 5 #[.string s, .string t, .int .i64 d] w (LawF w) := by
  by_cases h : 3000 < s.size + t.size
  · exact ereads_long s t d w hG hs ht h
  · cases hc : cmt s.data.toList with
    | true => exact ereads_comm s t d w hG (by omega) hc
    | false =>
      rcases fails_or s d with hF | ⟨D, e, r, rfl, h1, h2, hp⟩
      · exact ereads_fail s t d w hG (by omega) hc hF
      · exact ereads_ok s t D w hG (by omega) hc h1 h2 hp
end Go.Proofs.YtbekheibdnkpdaaGreatDoor
