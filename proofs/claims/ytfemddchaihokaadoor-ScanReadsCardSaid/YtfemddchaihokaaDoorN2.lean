/-
  ScanTells, walked.
-/
import Derived.Test.YtfemddchaihokaaDoorR5
import Derived.Test.YtfemddchaihokaaDoorN2a
namespace Go.Proofs.YtfemddchaihokaaDoor
open Go.RowKit

theorem num_nil2 (w : World) : Calls Tryd.prog 12 #[.nilIface] w fun e w' => e = .returned (.int .i64 0) ∧ w = w' := (num_nil w).mono fun _ _ h => ⟨h.1, h.2.symm⟩
theorem tokens_long (s : ByteArray) (w : World) (hs : 65536 < s.size) : Calls Tryd.prog 10 #[.string s] w fun e w' => e = .returned (.tuple #[.slice none 0 0, .iface 55 (.int .i64 2)]) ∧ w = w' := by
  have g65 : decide (65536 < (s.size : Int)) = true := by simp; omega
  go_enter Tryd.func10, Tryd.ntmps10
  go_wp2
  go_ret2
  exact ⟨rfl, rfl⟩
set_option maxRecDepth 100000 in
theorem rtokens_long (s : ByteArray) (w : World) (hs : 65536 < s.size) : Calls Tryd.prog 11 #[.string s] w fun e w' => e = .returned (.tuple #[.slice none 0 0, .int .i64 2, .int .i64 (-1)]) ∧ w = w' := by
  have g65 : decide (65536 < (s.size : Int)) = true := by simp; omega
  go_enter Tryd.func11, Tryd.ntmps11
  go_wp2
  go_ret3
  exact ⟨rfl, rfl⟩
theorem rtokens_ok {s : ByteArray} {ts : List Tok} (w : World) (hs : s.size ≤ 65536) (h : toks s.data.toList = .ok ts) :
    Calls Tryd.prog 11 #[.string s] w fun e w' => ∃ g cap, e = .returned (.tuple #[.slice (some ⟨g, 0, none⟩) ts.length cap, .int .i64 0, .int .i64 (-1)]) ∧ 0 < ts.length ∧ ts.length ≤ 65537 ∧ w'.ownsRow w.heap.size 33 3 (.slice (some ⟨g, 0, none⟩) ts.length cap) ts.length (cellsT ts) ∧ Below w.heap.size w w' := by
  refine (rtokens_any s w hs).mono ?_
  rintro e w' (⟨ts', v, h1, rfl, h2, h3, h4, h5⟩ | ⟨x, p, h1, _⟩)
  · rw [h] at h1
    obtain rfl := Res.ok.inj h1
    obtain ⟨g, cap, rfl⟩ := owns_form h4 h2
    exact ⟨g, cap, rfl, h2, h3, h4, h5⟩
  · rw [h] at h1; cases h1
theorem rtokens_er {s : ByteArray} {x p : Nat} (w : World) (hs : s.size ≤ 65536) (h : toks s.data.toList = .error (x, p)) :
    Calls Tryd.prog 11 #[.string s] w fun e w' => e = .returned (.tuple #[.slice none 0 0, .int .i64 x, .int .i64 p]) ∧ Below w.heap.size w w' := by
  refine (rtokens_any s w hs).mono ?_
  rintro e w' (⟨ts', v, h1, _⟩ | ⟨x', p', h1, rfl, h2, h3⟩)
  · rw [h] at h1; cases h1
  · rw [h] at h1
    injection h1 with h1
    injection h1 with e1 e2
    subst e1 e2
    exact ⟨rfl, h3⟩

def DrawRel (n : Nat) (W : World) (i : Value) (wr : World) : Prop := ∃ k d : Nat, k ≤ n ∧ i = .int .i64 (k : Int) ∧ wr = W.drewN d

set_option maxHeartbeats 2000000 in
theorem tells_long (s : ByteArray) (w : World) (hG : GlobS w) (hs : 65536 < s.size) (hm : s.size ≤ 9223372036854775807) : Calls Tryd.prog 3 #[.string s] w (LawF w) := by
  have H0 := Lib.hid (alive_yes w hG)
  have H1 := Lib.hid (fun W : World => tokens_long s W hs)
  have H2 := Lib.hid (fun W : World => rtokens_long s W hs)
  have HG := Lib.hid hG
  have g1 : decide (3000 < (s.size : Int)) = true := by simp; omega
  have g2 : decide ((s.size : Int) ≤ 65536) = false := by simp; omega
  clear hG
  go_enter Tryd.func3, Tryd.ntmps3
  go_wp2_with fail
  with_reducible refine (H0.out).mono ?_
  rintro e w1 ⟨rfl, hb1⟩
  have HB1 := Lib.hid hb1
  clear hb1
  go_wp2_with fail
  with_reducible refine (H1.out w1).mono ?_
  rintro e w' ⟨rfl, rfl⟩
  go_wp2_with fail
  with_reducible refine (H2.out w1).mono ?_
  rintro e w' ⟨rfl, rfl⟩
  have H3 := Lib.hid (num_errno 2 w1 (HG.out.below HB1.out).glob)
  go_wp2_with fail
  with_reducible refine (H3.out).mono ?_
  rintro e w2 ⟨rfl, hb2⟩
  have HB2 := Lib.hid (HB1.out.trans (hb2.mono HB1.out.size))
  have H4 := Lib.hid (pos_errno 2 w2 (HG.out.below HB2.out).glob)
  clear hb2
  go_wp2_with fail
  with_reducible refine (H4.out).mono ?_
  rintro e w3 ⟨rfl, hb3⟩
  have HB3 := Lib.hid (HB2.out.trans (hb3.mono HB2.out.size))
  clear hb3
  go_wp2_with fail
  refine wp_loop_rounds 1 ?_
  rw [rounds_succ]
  go_wp2
  go_ret
  exact ⟨rfl, HB3.out⟩

theorem tells_mid (s : ByteArray) (w : World) (hG : GlobS w) (hs : s.size ≤ 65536) (h3 : 3000 < s.size) : Calls Tryd.prog 3 #[.string s] w (LawF w) := by
  have H0 := Lib.hid (alive_yes w hG)
  have g1 : decide (3000 < (s.size : Int)) = true := by simp; omega
  have g2 : decide ((s.size : Int) ≤ 65536) = true := by simp; omega
  clear hG
  go_enter Tryd.func3, Tryd.ntmps3
  go_wp2_with fail
  with_reducible refine (H0.out).mono ?_
  rintro e w1 ⟨rfl, hb1⟩
  go_wp2
  go_ret
  exact ⟨rfl, hb1⟩

set_option maxHeartbeats 2000000 in
theorem tells_er (s : ByteArray) (w : World) (hG : GlobS w) (hs : s.size ≤ 3000) {x p : Nat} (h : toks s.data.toList = .error (x, p)) : Calls Tryd.prog 3 #[.string s] w (LawF w) := by
  have H0 := Lib.hid (alive_yes w hG)
  have H1 := Lib.hid (fun (W : World) (hW : GlobS W) => tokens_er W hW (by omega) h)
  have H2 := Lib.hid (fun (W : World) => rtokens_er W (by omega) h)
  have HG := Lib.hid hG
  have g1 : decide (3000 < (s.size : Int)) = false := by simp; omega
  have g3 : ((x : Int) != (x : Int)) = false := by simp
  have g4 : ((p : Int) != (p : Int)) = false := by simp
  clear hG h
  go_enter Tryd.func3, Tryd.ntmps3
  go_wp2_with fail
  with_reducible refine (H0.out).mono ?_
  rintro e w1 ⟨rfl, hb1⟩
  have H1' := Lib.hid (H1.out w1 (HG.out.below hb1))
  have HB1 := Lib.hid hb1
  clear hb1
  go_wp2_with fail
  with_reducible refine (H1'.out).mono ?_
  rintro e w2 ⟨b, rfl, hlb, hx0, hA, hb2⟩
  have HA2 := Lib.hid hA
  have HB2 := Lib.hid (HB1.out.trans (hb2.mono HB1.out.size))
  clear hA hb2 hx0
  go_wp2_with fail
  with_reducible refine (H2.out w2).mono ?_
  rintro e w3 ⟨rfl, hb3⟩
  have HA3 := Lib.hid (HA2.out.below hb3)
  have HB3 := Lib.hid (HB2.out.trans (hb3.mono HB2.out.size))
  have H3 := Lib.hid (num_at b p x w3 (HG.out.below HB3.out).glob HA3.out)
  clear hb3
  go_wp2_with fail
  with_reducible refine (H3.out).mono ?_
  rintro e w4 ⟨rfl, hb4⟩
  have HB4 := Lib.hid (HB3.out.trans (hb4.mono HB3.out.size))
  have H4 := Lib.hid (pos_at b p x w4 (HG.out.below HB4.out).glob (HA3.out.below hb4))
  clear hb4
  go_wp2_with fail
  with_reducible refine (H4.out).mono ?_
  rintro e w5 ⟨rfl, hb5⟩
  have HB5 := Lib.hid (HB4.out.trans (hb5.mono HB4.out.size))
  clear hb5
  go_wp2_with fail
  refine wp_loop_rounds 1 ?_
  rw [rounds_succ]
  go_wp2
  go_ret
  exact ⟨rfl, HB5.out⟩

set_option maxHeartbeats 2000000 in
theorem tells_ok (s : ByteArray) (w : World) (hG : GlobS w) (hs : s.size ≤ 3000) {ts : List Tok} (h : toks s.data.toList = .ok ts) : Calls Tryd.prog 3 #[.string s] w (LawF w) := by
  have H0 := Lib.hid (alive_yes w hG)
  have H1 := Lib.hid (fun (W : World) (hW : GlobS W) => tokens_ok W hW (by omega) h)
  have H2 := Lib.hid (fun (W : World) => rtokens_ok W (by omega) h)
  have HG := Lib.hid hG
  have g1 : decide (3000 < (s.size : Int)) = false := by simp; omega
  clear hG h
  go_enter Tryd.func3, Tryd.ntmps3
  go_wp2_with fail
  with_reducible refine (H0.out).mono ?_
  rintro e w1 ⟨rfl, hb1⟩
  have H1' := Lib.hid (H1.out w1 (HG.out.below hb1))
  have HB1 := Lib.hid hb1
  clear hb1
  go_wp2_with fail
  with_reducible refine (H1'.out).mono ?_
  rintro e w2 ⟨g, cap, rfl, hn0, hn1, ho, hb2⟩
  have HO2 := Lib.hid ho
  have HB2 := Lib.hid (HB1.out.trans (hb2.mono HB1.out.size))
  clear ho hb2
  go_wp2_with fail
  with_reducible refine (H2.out w2).mono ?_
  rintro e w3 ⟨g', cap', rfl, _, _, ho', hb3⟩
  have HO3 := Lib.hid (owns_below HO2.out hb3)
  have HP3 := Lib.hid ho'
  have HB3 := Lib.hid (HB2.out.trans (hb3.mono HB2.out.size))
  have H3 := Lib.hid (num_nil2 w3)
  clear hb3 ho'
  go_wp2_with fail
  with_reducible refine (H3.out).mono ?_
  rintro e w' ⟨rfl, rfl⟩
  have H4 := Lib.hid (pos_nil w3)
  go_wp2_with fail
  with_reducible refine (H4.out).mono ?_
  rintro e w5 ⟨rfl, hb5⟩
  have HB5 := Lib.hid (HB3.out.trans (hb5.mono HB3.out.size))
  have HO5 := Lib.hid (owns_below HO3.out hb5)
  have HP5 := Lib.hid (owns_below HP3.out hb5)
  clear hb5 HO2 HO3 HP3
  obtain ⟨n, hn⟩ : ∃ n, n = ts.length := ⟨_, rfl⟩
  have HN := Lib.hid hn
  rw [← hn] at hn0 hn1 ⊢
  have g5 : ((n : Int) != (n : Int)) = false := by simp
  clear hn
  go_wp2_with fail
  go_loopw [8] (fun i wr => DrawRel n w5 i wr) (fun i _ => n - (intOf i).toNat)
  case atStart => exact ⟨0, 0, Nat.zero_le _, rfl, rfl⟩
  case round =>
    obtain ⟨k, d, hk, rfl, rfl⟩ := hrel
    by_cases hlt : k < n
    · have hkt : k < ts.length := by rw [← HN.out]; exact hlt
      obtain ⟨a0, a1, a2⟩ := tok_cells HO5.out (List.getElem?_eq_getElem hkt)
      obtain ⟨b0, b1, b2⟩ := tok_cells HP5.out (List.getElem?_eq_getElem hkt)
      generalize ts[k] = t at *
      have hne := neq_sameR t.kind t.pos ⟨t.text.toArray⟩
      have hgd := guardR
      have hd1 : decide (k < n) = true := by simp; omega
      generalize (⟨t.text.toArray⟩ : ByteArray) = tb at *
      generalize (t.kind : Int) = kd at *
      generalize (t.pos : Int) = ps at *
      clear hkt
      go_wp2_with fail
      go_quiet (fail)
      go_wp2
      go_roundw
      case rel => exact ⟨k + 1, d + nq, by omega, by go_num, rfl⟩
      case measure => simp [intOf]; omega
    · have hd1 : decide (k < n) = false := by simpa using hlt
      go_wp2
      go_ret
      exact ⟨rfl, below_drewN HB5.out _⟩

theorem tells_yes (s : ByteArray) (w : World) (hG : GlobS w) (hm : s.size ≤ 9223372036854775807) : Calls Tryd.prog 3 #[.string s] w (LawF w) := by
  by_cases h1 : 65536 < s.size
  · exact tells_long s w hG h1 hm
  by_cases h2 : 3000 < s.size
  · exact tells_mid s w hG (by omega) h2
  cases h : toks s.data.toList with
  | ok ts => exact tells_ok s w hG (by omega) h
  | error x => exact tells_er s w hG (by omega) (x := x.1) (p := x.2) h
end Go.Proofs.YtfemddchaihokaaDoor
