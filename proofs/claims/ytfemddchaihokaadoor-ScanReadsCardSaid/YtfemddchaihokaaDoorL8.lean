/-
  The program's Tokens, walked.
-/
import Derived.Test.YtfemddchaihokaaDoorL7
namespace Go.Proofs.YtfemddchaihokaaDoor
open Go.RowKit

set_option maxHeartbeats 2000000 in
theorem tokens_any (s : ByteArray) (w : World) (hG : GlobS w) (hs : s.size ≤ 65536) : Calls Tryd.prog 10 #[.string s] w (TokP (toks s.data.toList) w) := by
  have HZ := Lib.hid (size_list s)
  have HG := Lib.hid hG
  obtain ⟨i0, hi0, hz⟩ := Option.map_eq_some_iff.1 infoT
  simp only [Prod.mk.injEq] at hz
  obtain ⟨hz0, hz1, hz2⟩ := hz
  have HZ0 := Lib.hid hz0
  have HZ1 := Lib.hid hz1
  have HZ2 := Lib.hid hz2
  have HI := Lib.hid hi0
  have H1 := Lib.hid (clone_any s w hs)
  obtain ⟨b0, hb0⟩ : ∃ b0, b0 = blanks false (s.data.toList.drop 0) := ⟨_, rfl⟩
  have h2 : ∀ W : World, Calls Tryd.prog 24 #[.string s, .int .i64 0] W fun e w' => e = .returned (.int .i64 (b0 : Int)) ∧ W = w' := fun W => by
    have h := skipb_any s 0 W hs (by omega)
    rw [← hb0, Nat.zero_add] at h
    exact h
  have H2 := Lib.hid h2
  have hbl := blanks_le false (s.data.toList.drop 0)
  rw [List.length_drop, HZ.out, ← hb0] at hbl
  have hbt := blanks_twice s.data.toList 0
  rw [← hb0, Nat.zero_add] at hbt
  have HS := Lib.hid (show scanG s.data.toList 0 = scanG s.data.toList b0 by
    have h := scanG_skip (l := s.data.toList) (i := 0) (b := b0) (by rw [HZ.out]; omega) (by rw [Nat.zero_add, hbt, ← hb0]; rfl)
    rw [Nat.zero_add] at h
    exact h)
  have HB0 := Lib.hid hbt
  have hbl0 : b0 ≤ s.size := by omega
  have g65 : decide (65536 < (s.size : Int)) = false := by simp; omega
  clear hz0 hz1 hz2 hi0 hG hbl hb0 hbt h2
  go_enter Tryd.func10, Tryd.ntmps10
  go_wp2_with fail
  with_reducible refine (H1.out).mono ?_
  rintro e w1 ⟨rfl, hb1⟩
  have HB1 := Lib.hid hb1
  clear hb1
  go_wp2_with fail
  with_reducible refine (H2.out w1).mono ?_
  rintro e w' ⟨rfl, rfl⟩
  clear H1 H2 g65
  go_wp2_with fail
  go_loopw [4, 5] (fun v i wr => TokRel s.data.toList w v i wr) (fun _ i _ => s.size - (intOf i).toNat)
  case atStart => exact ⟨[], b0, rfl, by rw [HZ.out]; omega, HB0.out, by rw [toks_eq, HS.out, onto_nil], Nat.zero_le _, World.ownsRow_nil _ _ _ _, HB1.out⟩
  case round =>
    obtain ⟨acc, k, rfl, hk, hbk, htk, hacc, hown, hbw⟩ := hrel
    rw [HZ.out] at hk
    by_cases hlt : k < s.size
    · have hGr : GlobS wr := HG.out.below hbw
      have hkl : k < s.data.toList.length := by rw [HZ.out]; exact hlt
      have hm := measure_any (s.extract k s.size) wr hGr (by simp only [ByteArray.size_extract]; omega) (by simp only [ByteArray.size_extract]; omega)
      rw [ext_end] at hm
      have hml := meas_le (s.data.toList.drop k)
      rw [List.length_drop, HZ.out] at hml
      have hmp := meas_pos (s.data.toList.drop k) (drop_ne hkl)
      have hql := quote_len hkl
      have her := tok_er hkl hbk htk
      have hon := tok_on hkl hbk htk
      have hacc' : acc.length ≤ 65536 := by omega
      unfold measP measT at hm
      by_cases he : (meas (s.data.toList.drop k)).2.2 = 0
      · have hmp := hmp he
        have hql := hql he
        have hon := hon he
        rw [he] at hm
        have HM := Lib.hid hm
        have HON := Lib.hid hon
        have hx : (s.extract k (k + (meas (s.data.toList.drop k)).2.1)).data.toList = (s.data.toList.drop k).take (meas (s.data.toList.drop k)).2.1 := by
          rw [ext_list, Nat.add_sub_cancel_left]
        have hbr := fun W : World => bare_any (meas (s.data.toList.drop k)).1 (s.extract k (k + (meas (s.data.toList.drop k)).2.1)) W (by simp only [ByteArray.size_extract]; omega) (fun h => by simp only [ByteArray.size_extract]; have := hql h; omega)
        rw [hx] at hbr
        have HBR := Lib.hid hbr
        have hsk : ∀ W : World, Calls Tryd.prog 24 #[.string s, .int .i64 ((k : Int) + ((meas (s.data.toList.drop k)).2.1 : Int))] W fun e w' => e = .returned (.int .i64 ((k + (meas (s.data.toList.drop k)).2.1 + blanks false (s.data.toList.drop (k + (meas (s.data.toList.drop k)).2.1)) : Nat) : Int)) ∧ W = w' := fun W => skipb_any s (k + (meas (s.data.toList.drop k)).2.1) W hs (by omega)
        have HSK := Lib.hid hsk
        have hbl2 := blanks_le false (s.data.toList.drop (k + (meas (s.data.toList.drop k)).2.1))
        rw [List.length_drop, HZ.out] at hbl2
        have HT2 := Lib.hid (blanks_twice s.data.toList (k + (meas (s.data.toList.drop k)).2.1))
        have HOW := Lib.hid hown
        have HBW := Lib.hid hbw
        clear hon hm her hx hbr hsk hown hbw htk hbk hGr hql he hkl
        generalize bareL (meas (s.data.toList.drop k)).1 ((s.data.toList.drop k).take (meas (s.data.toList.drop k)).2.1) = tx at *
        generalize (meas (s.data.toList.drop k)).1 = kd at *
        generalize (meas (s.data.toList.drop k)).2.1 = n at *
        generalize hbn : blanks false (s.data.toList.drop (k + n)) = bn at *
        have HBN := Lib.hid hbn
        clear hbn
        go_wp2_with fail
        with_reducible refine (HM.out).mono ?_
        rintro e w2 ⟨rfl, hb2⟩
        have e0 : erV 0 = .nilIface := rfl
        rw [e0]
        clear e0
        have HB2 := Lib.hid hb2
        clear hb2
        go_wp2_with fail
        with_reducible refine (HBR.out w2).mono ?_
        rintro e w' ⟨rfl, rfl⟩
        have e1 : strV tx = .string ⟨tx.toArray⟩ := rfl
        rw [e1]
        clear e1
        generalize htb : (⟨tx.toArray⟩ : ByteArray) = tb
        have HTB := Lib.hid htb
        clear htb
        have HO2 := Lib.hid (owns_below HOW.out HB2.out)
        have hz2 : w.heap.size ≤ w2.heap.size := Nat.le_trans HBW.out.size HB2.out.size
        go_wp2_with (at_builtin; refine wpList_append_own _ rfl _ _ 23 rfl w.heap.size 34 i0 (.agg #[.int .i64 0, .string ⟨#[]⟩, .int .i64 0]) 3 32 Tryd.underlying23 HI.out HZ0.out HZ1.out HZ2.out rfl (by decide) _ _ _ rfl (HO2.out.alloc _) ⟨w2.heap.size, 0, none⟩ 1 1 [.int .i64 kd, .string tb, .int .i64 k] rfl rfl ?c1 ?c2 ?c3 ?c4 ?c5 ?_)
        case c1 =>
          intro j x hj
          match j, hj with
          | 0, hj => simp at hj; subst hj; simp [Addr.add]
          | 1, hj => simp at hj; subst hj; simp [Addr.add]
          | 2, hj => simp at hj; subst hj; simp [Addr.add]
        case c2 => intro x hx; simp at hx; rcases hx with rfl | rfl | rfl <;> rfl
        case c3 => unfold maxLen; omega
        case c4 => omega
        case c5 => simp; omega
        intro v3 w3 hown3 hgrow3 _
        have HB3 := Lib.hid (((HBW.out.trans (HB2.out.mono HBW.out.size)).alloc hz2 _).grown hgrow3 (by simp; omega) (fun g hg => owns_lt HO2.out g hg))
        have HO3 := Lib.hid hown3
        clear hown3 hgrow3
        go_wp2_with fail
        with_reducible refine (HSK.out w3).mono ?_
        rintro e w' ⟨rfl, rfl⟩
        go_wp2_with fail
        go_roundw
        case rel =>
          refine ⟨acc ++ [⟨kd, tx, k⟩], k + n + bn, rfl, by rw [HZ.out]; omega, HT2.out, HON.out, by simp; omega, ?_, HB3.out⟩
          have h := HO3.out
          rw [← HTB.out] at h
          rw [cellsT_snoc, List.length_append]
          exact h
        case measure => simp [intOf]; omega
      · have her := her he
        have hv : erV (meas (s.data.toList.drop k)).2.2 = .iface 55 (.int .i64 (meas (s.data.toList.drop k)).2.2) := by unfold erV; rw [if_neg he]
        rw [hv] at hm
        have HM := Lib.hid hm
        have HER := Lib.hid her
        have HNE := Lib.hid he
        have HBW := Lib.hid hbw
        clear hm her hv hon hql hmp hown hbw htk hbk hGr he hkl
        generalize (meas (s.data.toList.drop k)).1 = kd at *
        generalize (meas (s.data.toList.drop k)).2.1 = n at *
        generalize (meas (s.data.toList.drop k)).2.2 = er at *
        go_wp2_with fail
        with_reducible refine (HM.out).mono ?_
        rintro e w2 ⟨rfl, hb2⟩
        have HB2 := Lib.hid hb2
        clear hb2
        go_wp2
        go_ret2
        have hb := HBW.out.trans (HB2.out.mono HBW.out.size)
        refine .inr ⟨er, k, w2.heap.size, HER.out, rfl, hb.size, HNE.out, by simp, by simp, hb.alloc hb.size _⟩
    · have hkl : k = s.data.toList.length := by rw [HZ.out]; omega
      have g : decide (k < s.size) = false := by simpa using hlt
      have HEND := Lib.hid (tok_end (l := s.data.toList) (acc := acc) (by rw [← hkl]; exact htk))
      have HKL := Lib.hid hkl
      have HOW := Lib.hid hown
      have HBW := Lib.hid hbw
      clear hown hbw htk hbk hkl
      have hz2 : w.heap.size ≤ wr.heap.size := HBW.out.size
      go_wp2_with (at_builtin; refine wpList_append_own _ rfl _ _ 23 rfl w.heap.size 34 i0 (.agg #[.int .i64 0, .string ⟨#[]⟩, .int .i64 0]) 3 32 Tryd.underlying23 HI.out HZ0.out HZ1.out HZ2.out rfl (by decide) _ _ _ rfl (HOW.out.alloc _) ⟨wr.heap.size, 0, none⟩ 1 1 [.int .i64 0, .string ⟨#[]⟩, .int .i64 s.size] rfl rfl ?c1 ?c2 ?c3 ?c4 ?c5 ?_)
      case c1 =>
        intro j x hj
        match j, hj with
        | 0, hj => simp at hj; subst hj; simp [Addr.add]
        | 1, hj => simp at hj; subst hj; simp [Addr.add]
        | 2, hj => simp at hj; subst hj; simp [Addr.add]
      case c2 => intro x hx; simp at hx; rcases hx with rfl | rfl | rfl <;> rfl
      case c3 => unfold maxLen; omega
      case c4 => omega
      case c5 => simp; omega
      intro v3 w3 hown3 hgrow3 _
      have HB3 := Lib.hid ((HBW.out.alloc hz2 _).grown hgrow3 (by simp; omega) (fun g hg => owns_lt HOW.out g hg))
      have HO3 := Lib.hid hown3
      clear hown3 hgrow3
      go_wp2
      go_ret2
      refine .inl ⟨acc ++ [⟨0, [], s.data.toList.length⟩], v3, HEND.out, rfl, by simp, by simp; omega, ?_, HB3.out⟩
      rw [cellsT_snoc, List.length_append, HZ.out]
      exact HO3.out
end Go.Proofs.YtfemddchaihokaaDoor
