/-
  ScanJoins, walked.
-/
import Derived.Test.YtfemddchaihokaaDoorN2a
import Derived.Test.YtfemddchaihokaaDoorM3
namespace Go.Proofs.YtfemddchaihokaaDoor
open Go.RowKit

theorem tokens_some (s : ByteArray) (w : World) (hG : GlobS w) (hs : s.size ≤ 65536) : Calls Tryd.prog 10 #[.string s] w fun e w' => ∃ v er, e = .returned (.tuple #[v, er]) ∧ Below w.heap.size w w' := by
  refine (tokens_any s w hG hs).mono ?_
  rintro e w' (⟨ts', v, h1, rfl, h2, h3, h4, h5⟩ | ⟨x, p, b, h1, rfl, _, _, _, _, h5⟩)
  · exact ⟨_, _, rfl, h5⟩
  · exact ⟨_, _, rfl, h5⟩
theorem num_nil3 (w : World) : Calls Tryd.prog 12 #[.nilIface] w fun e w' => e = .returned (.int .i64 0) ∧ w = w' := (num_nil w).mono fun _ _ h => ⟨h.1, h.2.symm⟩

theorem glue_list (s t : ByteArray) : (s ++ ⟨#[10]⟩ ++ t).data.toList = s.data.toList ++ 10 :: t.data.toList := by simp
theorem glue_size (s t : ByteArray) : (s ++ ⟨#[10]⟩ ++ t).size = s.size + t.size + 1 := by
  rw [← size_list, glue_list, List.length_append, List.length_cons, size_list, size_list]; omega

theorem joins_long (s t : ByteArray) (w : World) (hG : GlobS w) (hs : s.size ≤ 140737488355328) (ht : t.size ≤ 140737488355328) (h3 : 3000 < s.size + t.size) : Calls Tryd.prog 7 #[.string s, .string t] w (LawF w) := by
  have H0 := Lib.hid (alive_yes w hG)
  have g1 : decide (3000 < (s.size : Int) + t.size) = true := by simp; omega
  clear hG
  go_enter Tryd.func7, Tryd.ntmps7
  go_wp2_with fail
  with_reducible refine (H0.out).mono ?_
  rintro e w1 ⟨rfl, hb1⟩
  go_wp2
  go_ret
  exact ⟨rfl, hb1⟩

set_option maxRecDepth 100000 in
set_option maxHeartbeats 2000000 in
theorem joins_er (s t : ByteArray) (w : World) (hG : GlobS w) (h3 : s.size + t.size ≤ 3000) {x p : Nat} (h : toks s.data.toList = .error (x, p)) : Calls Tryd.prog 7 #[.string s, .string t] w (LawF w) := by
  have hj : toks (s ++ ⟨#[10]⟩ ++ t).data.toList = .error (x, p) := by rw [glue_list]; exact join_er h
  have H0 := Lib.hid (alive_yes w hG)
  have H1 := Lib.hid (fun (W : World) (hW : GlobS W) => tokens_er W hW (by omega) h)
  have H2 := Lib.hid (fun (W : World) (hW : GlobS W) => tokens_some t W hW (by omega))
  have H3 := Lib.hid (fun (W : World) (hW : GlobS W) => tokens_er (s := s ++ ⟨#[10]⟩ ++ t) W hW (by rw [glue_size]; omega) hj)
  have HG := Lib.hid hG
  have g1 : decide (3000 < (s.size : Int) + t.size) = false := by simp; omega
  have g3 : ((x : Int) == (x : Int)) = true := by simp
  have g4 : ((p : Int) == (p : Int)) = true := by simp
  clear hG h hj
  go_enter Tryd.func7, Tryd.ntmps7
  go_wp2_with fail
  with_reducible refine (H0.out).mono ?_
  rintro e w1 ⟨rfl, hb1⟩
  have H1' := Lib.hid (H1.out w1 (HG.out.below hb1))
  have HB1 := Lib.hid hb1
  clear hb1
  go_wp2_with fail
  with_reducible refine (H1'.out).mono ?_
  rintro e w2 ⟨b, rfl, _, _, hA, hb2⟩
  have HA2 := Lib.hid hA
  have HB2 := Lib.hid (HB1.out.trans (hb2.mono HB1.out.size))
  have H2' := Lib.hid (H2.out w2 (HG.out.below HB2.out))
  clear hA hb2
  go_wp2_with fail
  with_reducible refine (H2'.out).mono ?_
  rintro e w3 ⟨v3, er3, rfl, hb3⟩
  have HA3 := Lib.hid (HA2.out.below hb3)
  have HB3 := Lib.hid (HB2.out.trans (hb3.mono HB2.out.size))
  have H3' := Lib.hid (H3.out w3 (HG.out.below HB3.out))
  clear hb3
  go_wp2_with fail
  with_reducible refine (H3'.out).mono ?_
  rintro e w4 ⟨b', rfl, _, _, hA', hb4⟩
  have HA4 := Lib.hid (HA3.out.below hb4)
  have HA4' := Lib.hid hA'
  have HB4 := Lib.hid (HB3.out.trans (hb4.mono HB3.out.size))
  have H5 := Lib.hid (num_at b' p x w4 (HG.out.below HB4.out).glob hA')
  clear hb4 hA'
  go_wp2_with fail
  with_reducible refine (H5.out).mono ?_
  rintro e w5 ⟨rfl, hb5⟩
  have HA5 := Lib.hid (HA4.out.below hb5)
  have HA5' := Lib.hid (HA4'.out.below hb5)
  have HB5 := Lib.hid (HB4.out.trans (hb5.mono HB4.out.size))
  have H6 := Lib.hid (num_at b p x w5 (HG.out.below HB5.out).glob HA5.out)
  clear hb5
  go_wp2_with fail
  with_reducible refine (H6.out).mono ?_
  rintro e w6 ⟨rfl, hb6⟩
  have HA6 := Lib.hid (HA5.out.below hb6)
  have HA6' := Lib.hid (HA5'.out.below hb6)
  have HB6 := Lib.hid (HB5.out.trans (hb6.mono HB5.out.size))
  have H7 := Lib.hid (pos_at b' p x w6 (HG.out.below HB6.out).glob HA6'.out)
  clear hb6
  go_wp2_with fail
  with_reducible refine (H7.out).mono ?_
  rintro e w7 ⟨rfl, hb7⟩
  have HA7 := Lib.hid (HA6.out.below hb7)
  have HB7 := Lib.hid (HB6.out.trans (hb7.mono HB6.out.size))
  have H8 := Lib.hid (pos_at b p x w7 (HG.out.below HB7.out).glob HA7.out)
  clear hb7
  go_wp2_with fail
  with_reducible refine (H8.out).mono ?_
  rintro e w8 ⟨rfl, hb8⟩
  have HB8 := Lib.hid (HB7.out.trans (hb8.mono HB7.out.size))
  clear hb8
  go_wp2
  go_ret
  exact ⟨rfl, HB8.out⟩

set_option maxRecDepth 100000 in
set_option maxHeartbeats 2000000 in
theorem joins_er2 (s t : ByteArray) (w : World) (hG : GlobS w) (h3 : s.size + t.size ≤ 3000) {ts : List Tok} {x p : Nat} (h : toks s.data.toList = .ok ts) (h2 : toks t.data.toList = .error (x, p)) (hp : p ≤ 3000) : Calls Tryd.prog 7 #[.string s, .string t] w (LawF w) := by
  have hj : toks (s ++ ⟨#[10]⟩ ++ t).data.toList = .error (x, p + (s.size + 1)) := by rw [glue_list, ← size_list s]; exact join_er2 h h2
  have H0 := Lib.hid (alive_yes w hG)
  have H1 := Lib.hid (fun (W : World) (hW : GlobS W) => tokens_ok W hW (by omega) h)
  have H2 := Lib.hid (fun (W : World) (hW : GlobS W) => tokens_er W hW (by omega) h2)
  have H3 := Lib.hid (fun (W : World) (hW : GlobS W) => tokens_er (s := s ++ ⟨#[10]⟩ ++ t) W hW (by rw [glue_size]; omega) hj)
  have HG := Lib.hid hG
  have g1 : decide (3000 < (s.size : Int) + t.size) = false := by simp; omega
  have g3 : ((x : Int) == (x : Int)) = true := by simp
  have g4 : (((p + (s.size + 1) : Nat) : Int) == (p : Int) + s.size + 1) = true := by simp; omega
  clear hG h hj h2
  generalize ((p + (s.size + 1) : Nat) : Int) = q at *
  go_enter Tryd.func7, Tryd.ntmps7
  go_wp2_with fail
  with_reducible refine (H0.out).mono ?_
  rintro e w1 ⟨rfl, hb1⟩
  have H1' := Lib.hid (H1.out w1 (HG.out.below hb1))
  have HB1 := Lib.hid hb1
  clear hb1
  go_wp2_with fail
  with_reducible refine (H1'.out).mono ?_
  rintro e w2 ⟨g, cap, rfl, _, _, _, hb2⟩
  have HB2 := Lib.hid (HB1.out.trans (hb2.mono HB1.out.size))
  have H2' := Lib.hid (H2.out w2 (HG.out.below HB2.out))
  clear hb2
  generalize ts.length = na at *
  go_wp2_with fail
  with_reducible refine (H2'.out).mono ?_
  rintro e w3 ⟨b, rfl, _, _, hA, hb3⟩
  have HA3 := Lib.hid hA
  have HB3 := Lib.hid (HB2.out.trans (hb3.mono HB2.out.size))
  have H3' := Lib.hid (H3.out w3 (HG.out.below HB3.out))
  clear hb3 hA
  go_wp2_with fail
  with_reducible refine (H3'.out).mono ?_
  rintro e w4 ⟨b', rfl, _, _, hA', hb4⟩
  have HA4 := Lib.hid (HA3.out.below hb4)
  have HA4' := Lib.hid hA'
  have HB4 := Lib.hid (HB3.out.trans (hb4.mono HB3.out.size))
  have H5 := Lib.hid (num_at b' q x w4 (HG.out.below HB4.out).glob hA')
  clear hb4 hA'
  go_wp2_with fail
  with_reducible refine (H5.out).mono ?_
  rintro e w5 ⟨rfl, hb5⟩
  have HA5 := Lib.hid (HA4.out.below hb5)
  have HA5' := Lib.hid (HA4'.out.below hb5)
  have HB5 := Lib.hid (HB4.out.trans (hb5.mono HB4.out.size))
  have H6 := Lib.hid (num_at b p x w5 (HG.out.below HB5.out).glob HA5.out)
  clear hb5
  go_wp2_with fail
  with_reducible refine (H6.out).mono ?_
  rintro e w6 ⟨rfl, hb6⟩
  have HA6 := Lib.hid (HA5.out.below hb6)
  have HA6' := Lib.hid (HA5'.out.below hb6)
  have HB6 := Lib.hid (HB5.out.trans (hb6.mono HB5.out.size))
  have H7 := Lib.hid (pos_at b' q x w6 (HG.out.below HB6.out).glob HA6'.out)
  clear hb6
  go_wp2_with fail
  with_reducible refine (H7.out).mono ?_
  rintro e w7 ⟨rfl, hb7⟩
  have HA7 := Lib.hid (HA6.out.below hb7)
  have HB7 := Lib.hid (HB6.out.trans (hb7.mono HB6.out.size))
  have H8 := Lib.hid (pos_at b p x w7 (HG.out.below HB7.out).glob HA7.out)
  clear hb7
  go_wp2_with fail
  with_reducible refine (H8.out).mono ?_
  rintro e w8 ⟨rfl, hb8⟩
  have HB8 := Lib.hid (HB7.out.trans (hb8.mono HB7.out.size))
  clear hb8
  go_wp2
  go_ret
  exact ⟨rfl, HB8.out⟩
end Go.Proofs.YtfemddchaihokaaDoor
