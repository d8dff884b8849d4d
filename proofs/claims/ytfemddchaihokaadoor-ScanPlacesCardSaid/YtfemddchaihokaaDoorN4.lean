/-
  ScanPlaces, walked.
-/
import Derived.Test.YtfemddchaihokaaDoorN2a
import Derived.Test.YtfemddchaihokaaDoorM5
import Derived.Deep.Cut
namespace Go.Proofs.YtfemddchaihokaaDoor
open Go.RowKit

def PlRel (ts : List Tok) (n : Nat) (W : World) (a x i : Value) (wr : World) : Prop :=
  ∃ k : Nat, k ≤ n ∧ a = .int .i64 ((atK 0 ts k : Nat) : Int) ∧ x = .string ⟨(wideL (ts.take k)).toArray⟩ ∧ (wideL (ts.take k)).length ≤ k * 3007 ∧ i = .int .i64 (k : Int) ∧ Below W.heap.size W wr

theorem places_long (s : ByteArray) (w : World) (hG : GlobS w) (h3 : 3000 < s.size) : Calls Tryd.prog 5 #[.string s] w (LawF w) := by
  have H0 := Lib.hid (alive_yes w hG)
  have g1 : decide (3000 < (s.size : Int)) = true := by simp; omega
  clear hG
  go_enter Tryd.func5, Tryd.ntmps5
  go_wp2_with fail
  with_reducible refine (H0.out).mono ?_
  rintro e w1 ⟨rfl, hb1⟩
  go_wp2
  go_ret
  exact ⟨rfl, hb1⟩
theorem places_er (s : ByteArray) (w : World) (hG : GlobS w) (h3 : s.size ≤ 3000) {x p : Nat} (h : toks s.data.toList = .error (x, p)) : Calls Tryd.prog 5 #[.string s] w (LawF w) := by
  have H0 := Lib.hid (alive_yes w hG)
  have H1 := Lib.hid (fun (W : World) (hW : GlobS W) => tokens_er W hW (by omega) h)
  have HG := Lib.hid hG
  have g1 : decide (3000 < (s.size : Int)) = false := by simp; omega
  clear hG h
  go_enter Tryd.func5, Tryd.ntmps5
  go_wp2_with fail
  with_reducible refine (H0.out).mono ?_
  rintro e w1 ⟨rfl, hb1⟩
  have H1' := Lib.hid (H1.out w1 (HG.out.below hb1))
  have HB1 := Lib.hid hb1
  clear hb1
  go_wp2_with fail
  with_reducible refine (H1'.out).mono ?_
  rintro e w2 ⟨b, rfl, hlb, hx0, hA, hb2⟩
  clear hA hx0 hlb
  go_wp2
  go_ret
  exact ⟨rfl, HB1.out.trans (hb2.mono HB1.out.size)⟩

theorem glue3 (tb : ByteArray) : ((⟨#[34]⟩ : ByteArray) ++ tb ++ ⟨#[34]⟩).data.toList = 34 :: tb.data.toList ++ [34] := by simp
theorem glueW (x F : ByteArray) : (x ++ ⟨#[32]⟩ ++ F ++ ⟨#[32, 47, 47, 32, 120, 10]⟩).data.toList = x.data.toList ++ (32 :: F.data.toList ++ [32, 47, 47, 32, 120, 10]) := by simp
theorem mk_list (x : ByteArray) (l : List UInt8) (h : x.data.toList = l) : x = ⟨l.toArray⟩ := by rw [← h]

set_option maxRecDepth 100000 in
set_option maxHeartbeats 4000000 in
theorem places_ok (s : ByteArray) (w : World) (hG : GlobS w) (h3 : s.size ≤ 3000) {ts : List Tok} (h : toks s.data.toList = .ok ts) : Calls Tryd.prog 5 #[.string s] w (LawF w) := by
  have HP := Lib.hid (good_at (good_toks h))
  obtain ⟨ms, hms, hsl, hsm⟩ := wide_toks h
  have HSM := Lib.hid hsm
  have HW := Lib.hid hms
  have H0 := Lib.hid (alive_yes w hG)
  have H1 := Lib.hid (fun (W : World) (hW : GlobS W) => tokens_ok W hW (by omega) h)
  have HG := Lib.hid hG
  have g1 : decide (3000 < (s.size : Int)) = false := by simp; omega
  obtain ⟨n, hn⟩ : ∃ n, n = ts.length := ⟨_, rfl⟩
  have HN := Lib.hid hn
  have HNM := Lib.hid (show n = ms.length by omega)
  clear hG h hms hsl hsm hn
  go_enter Tryd.func5, Tryd.ntmps5
  go_wp2_with fail
  with_reducible refine (H0.out).mono ?_
  rintro e w1 ⟨rfl, hb1⟩
  have H1' := Lib.hid (H1.out w1 (HG.out.below hb1))
  have HB1 := Lib.hid hb1
  clear hb1
  go_wp2_with fail
  with_reducible refine (H1'.out).mono ?_
  rintro e w2 ⟨g, cap, rfl, hn0, hn1, ho, hb2⟩
  rw [← HN.out] at hn0 hn1 ⊢
  have HO2 := Lib.hid ho
  have HB2 := Lib.hid (HB1.out.trans (hb2.mono HB1.out.size))
  clear ho hb2
  go_wp2_with fail
  go_loopw [5, 6, 7] (fun a x i wr => PlRel ts n w2 a x i wr) (fun _ _ i _ => n - (intOf i).toNat)
  case atStart => exact ⟨0, Nat.zero_le _, rfl, rfl, Nat.zero_le _, rfl, Below.refl _ _⟩
  case round =>
    obtain ⟨k, hk, rfl, rfl, hwl, rfl, hbr⟩ := hrel
    have ho := owns_below HO2.out hbr
    have HBR := Lib.hid hbr
    clear hbr
    by_cases hlt : k < n
    · have hkt : k < ts.length := by rw [← HN.out]; exact hlt
      have hget := List.getElem?_eq_getElem hkt
      obtain ⟨c0, c1, c2⟩ := tok_cells ho hget
      obtain ⟨p1, p2, p3, p4⟩ := HP.out k _ hget
      have hsn : wideL (ts.take (k + 1)) = wideL (ts.take k) ++ (32 :: full ts[k] ++ [32, 47, 47, 32, 120, 10]) := by
        rw [List.take_succ_eq_append_getElem hkt, wideL_snoc]
      have hat : atK 0 ts (k + 1) = ts[k].pos + (full ts[k]).length := by
        show (match ts[k]? with | some t => t.pos + (full t).length | none => 0) = _
        rw [hget]
      have HSN := Lib.hid hsn
      have HAT := Lib.hid hat
      rw [size_list] at p2
      rw [← HN.out] at p4
      have hd1 : decide (k < n) = true := by simp; omega
      have hfull : full ts[k] = if ts[k].kind = 3 then 34 :: ts[k].text ++ [34] else ts[k].text := rfl
      obtain ⟨tb, htb⟩ : ∃ tb : ByteArray, tb = ⟨ts[k].text.toArray⟩ := ⟨_, rfl⟩
      have htl : tb.data.toList = ts[k].text := by rw [htb]
      have htbs : tb.size ≤ 3000 := by
        have h1 : ts[k].text.length ≤ (full ts[k]).length := by
          rw [hfull]
          split
          · simp; omega
          · exact Nat.le_refl _
        rw [← size_list, htl]
        omega
      rw [← htb] at c1
      clear hsn hat hget ho htb
      generalize ts[k] = t at *
      clear hkt
      obtain ⟨A, hA⟩ : ∃ A, A = atK 0 ts k := ⟨_, rfl⟩
      rw [← hA] at p1 ⊢
      clear hA
      obtain ⟨X, hX⟩ : ∃ X : ByteArray, X = ⟨(wideL (ts.take k)).toArray⟩ := ⟨_, rfl⟩
      have HXL := Lib.hid (show X.data.toList = wideL (ts.take k) by rw [hX])
      have hXs : X.size ≤ k * 3007 := by rw [← size_list, HXL.out]; exact hwl
      have hXb : X.size ≤ 200000000 := by omega
      rw [← hX]
      clear hX
      by_cases hk3 : t.kind = 3
      · have g3 : ((t.kind : Int) == 3) = true := by rw [hk3]; rfl
        have q6 : ((t.kind : Int) == 0) = false := by rw [hk3]; rfl
        have q7 : ((k : Int) == (n : Int) - 1) = false := by rw [beq_eq_false_iff_ne]; intro hx; have := p4.2 (by omega); omega
        rw [if_pos hk3, ← htl, ← glue3] at hfull
        obtain ⟨F, hF⟩ : ∃ F : ByteArray, F = (⟨#[34]⟩ : ByteArray) ++ tb ++ ⟨#[34]⟩ := ⟨_, rfl⟩
        have HF := Lib.hid hF
        rw [← hF] at hfull
        clear hF
        clear p4 htl hk3
        go_upto_region 17 with (fail)
        rw [← HF.out]
        clear HF
        have hFL : F.data.toList = full t := hfull.symm
        have hFs : F.size = (full t).length := by rw [← size_list, hFL]
        have e1 : decide ((t.pos : Int) < (A : Int)) = false := by simp; omega
        have e1' : decide (t.pos < A) = false := by simp; omega
        have e2 : decide ((s.size : Int) < (t.pos : Int) + F.size) = false := by simp; omega
        have b1 : t.pos + F.size ≤ s.size := by omega
        have b2 : F.size ≤ 3000 := by omega
        have e3 : ((s.extract t.pos (t.pos + F.size)).toList != F.toList) = false := by
          rw [bne_eq_false_iff_eq, ByteArray.toList_eq, ByteArray.toList_eq, ext_list, Nat.add_sub_cancel_left, hFL, hFs]
          exact p3
        have e3' : ((s.extract t.pos (t.pos + F.size)).toList == F.toList) = true := by
          rw [beq_iff_eq, ByteArray.toList_eq, ByteArray.toList_eq, ext_list, Nat.add_sub_cancel_left, hFL, hFs]
          exact p3
        have HWX := Lib.hid (show (X ++ ⟨#[32]⟩ ++ F ++ ⟨#[32, 47, 47, 32, 120, 10]⟩ : ByteArray) = ⟨(wideL (ts.take (k + 1))).toArray⟩ from mk_list _ _ (by rw [glueW, HXL.out, hFL, HSN.out]))
        have HWL := Lib.hid (show (wideL (ts.take (k + 1))).length ≤ (k + 1) * 3007 by
          rw [HSN.out]; simp only [List.length_append, List.length_cons, List.length_nil]; omega)
        have HAF := Lib.hid (show ((t.pos : Int) + F.size) = ((atK 0 ts (k + 1) : Nat) : Int) by rw [HAT.out]; omega)
        clear hFL hFs hfull p1 p2 p3 hwl hXs
        go_wp2_with fail
        go_roundw
        case rel => exact ⟨k + 1, by omega, by rw [← HAF.out], by rw [← HWX.out], HWL.out, by go_num, HBR.out.alloc HBR.out.size _⟩
        case measure => simp [intOf]; omega
      · have g3 : ((t.kind : Int) == 3) = false := by rw [beq_eq_false_iff_ne]; omega
        rw [if_neg hk3, ← htl] at hfull
        by_cases hk0 : t.kind = 0
        · have q6 : ((t.kind : Int) == 0) = true := by rw [hk0]; rfl
          have q7 : ((k : Int) == (n : Int) - 1) = true := by rw [beq_iff_eq]; have := p4.1 hk0; omega
          clear p4 htl hk3 hk0
          have hFL : tb.data.toList = full t := hfull.symm
          have hFs : tb.size = (full t).length := by rw [← size_list, hFL]
          have e1 : decide ((t.pos : Int) < (A : Int)) = false := by simp; omega
          have e1' : decide (t.pos < A) = false := by simp; omega
          have e2 : decide ((s.size : Int) < (t.pos : Int) + tb.size) = false := by simp; omega
          have b1 : t.pos + tb.size ≤ s.size := by omega
          have b2 : tb.size ≤ 3000 := by omega
          have e3 : ((s.extract t.pos (t.pos + tb.size)).toList != tb.toList) = false := by
            rw [bne_eq_false_iff_eq, ByteArray.toList_eq, ByteArray.toList_eq, ext_list, Nat.add_sub_cancel_left, hFL, hFs]
            exact p3
          have e3' : ((s.extract t.pos (t.pos + tb.size)).toList == tb.toList) = true := by
            rw [beq_iff_eq, ByteArray.toList_eq, ByteArray.toList_eq, ext_list, Nat.add_sub_cancel_left, hFL, hFs]
            exact p3
          have HWX := Lib.hid (show (X ++ ⟨#[32]⟩ ++ tb ++ ⟨#[32, 47, 47, 32, 120, 10]⟩ : ByteArray) = ⟨(wideL (ts.take (k + 1))).toArray⟩ from mk_list _ _ (by rw [glueW, HXL.out, hFL, HSN.out]))
          have HWL := Lib.hid (show (wideL (ts.take (k + 1))).length ≤ (k + 1) * 3007 by
            rw [HSN.out]; simp only [List.length_append, List.length_cons, List.length_nil]; omega)
          have HAF := Lib.hid (show ((t.pos : Int) + tb.size) = ((atK 0 ts (k + 1) : Nat) : Int) by rw [HAT.out]; omega)
          clear hFL hFs hfull p1 p2 p3 hwl hXs
          go_wp2_with fail
          go_roundw
          case rel => exact ⟨k + 1, by omega, by rw [← HAF.out], by rw [← HWX.out], HWL.out, by go_num, HBR.out.alloc HBR.out.size _⟩
          case measure => simp [intOf]; omega
        · have q6 : ((t.kind : Int) == 0) = false := by rw [beq_eq_false_iff_ne]; omega
          have q7 : ((k : Int) == (n : Int) - 1) = false := by rw [beq_eq_false_iff_ne]; intro hx; exact hk0 (p4.2 (by omega))
          clear p4 htl hk3 hk0
          have hFL : tb.data.toList = full t := hfull.symm
          have hFs : tb.size = (full t).length := by rw [← size_list, hFL]
          have e1 : decide ((t.pos : Int) < (A : Int)) = false := by simp; omega
          have e1' : decide (t.pos < A) = false := by simp; omega
          have e2 : decide ((s.size : Int) < (t.pos : Int) + tb.size) = false := by simp; omega
          have b1 : t.pos + tb.size ≤ s.size := by omega
          have b2 : tb.size ≤ 3000 := by omega
          have e3 : ((s.extract t.pos (t.pos + tb.size)).toList != tb.toList) = false := by
            rw [bne_eq_false_iff_eq, ByteArray.toList_eq, ByteArray.toList_eq, ext_list, Nat.add_sub_cancel_left, hFL, hFs]
            exact p3
          have e3' : ((s.extract t.pos (t.pos + tb.size)).toList == tb.toList) = true := by
            rw [beq_iff_eq, ByteArray.toList_eq, ByteArray.toList_eq, ext_list, Nat.add_sub_cancel_left, hFL, hFs]
            exact p3
          have HWX := Lib.hid (show (X ++ ⟨#[32]⟩ ++ tb ++ ⟨#[32, 47, 47, 32, 120, 10]⟩ : ByteArray) = ⟨(wideL (ts.take (k + 1))).toArray⟩ from mk_list _ _ (by rw [glueW, HXL.out, hFL, HSN.out]))
          have HWL := Lib.hid (show (wideL (ts.take (k + 1))).length ≤ (k + 1) * 3007 by
            rw [HSN.out]; simp only [List.length_append, List.length_cons, List.length_nil]; omega)
          have HAF := Lib.hid (show ((t.pos : Int) + tb.size) = ((atK 0 ts (k + 1) : Nat) : Int) by rw [HAT.out]; omega)
          clear hFL hFs hfull p1 p2 p3 hwl hXs
          go_wp2_with fail
          go_roundw
          case rel => exact ⟨k + 1, by omega, by rw [← HAF.out], by rw [← HWX.out], HWL.out, by go_num, HBR.out.alloc HBR.out.size _⟩
          case measure => simp [intOf]; omega
    · have hke : ts.take k = ts := List.take_of_length_le (by rw [← HN.out]; omega)
      have hd1 : decide (k < n) = false := by simpa using hlt
      rw [hke] at hwl ⊢
      obtain ⟨X, hX⟩ : ∃ X : ByteArray, X = ⟨(wideL ts).toArray⟩ := ⟨_, rfl⟩
      have hXL : X.data.toList = wideL ts := by rw [hX]
      have hXs : X.size ≤ k * 3007 := by rw [← size_list, hXL]; exact hwl
      have hXb : X.size ≤ 200000000 := by omega
      rw [← hX]
      clear hX hke hwl
      generalize ((atK 0 ts k : Nat) : Int) = A at *
      by_cases hbig : 65536 < X.size
      · have g5 : decide (65536 < (X.size : Int)) = true := by simp; omega
        clear ho hXL
        go_wp2
        go_ret
        exact ⟨rfl, HB2.out.trans (HBR.out.mono HB2.out.size)⟩
      · have g5 : decide (65536 < (X.size : Int)) = false := by simp; omega
        have HBr := Lib.hid (HB2.out.trans (HBR.out.mono HB2.out.size))
        have hw := HW.out
        rw [← hXL] at hw
        have H5 := Lib.hid (tokens_ok wr (HG.out.below HBr.out) (by omega) hw)
        have HOR := Lib.hid ho
        clear ho hXL hw
        go_wp2_with fail
        with_reducible refine (H5.out).mono ?_
        rintro e w5 ⟨g', cap', rfl, _, _, ho', hb5⟩
        rw [← HNM.out]
        have HO5 := Lib.hid (owns_below HOR.out hb5)
        have HP5 := Lib.hid ho'
        have HB5 := Lib.hid (HBr.out.trans (hb5.mono HBr.out.size))
        have g6 : ((n : Int) != (n : Int)) = false := by simp
        clear ho' hb5
        go_wp2_with fail
        go_loopw [12] (fun i wr => ∃ k d : Nat, k ≤ n ∧ i = .int .i64 (k : Int) ∧ wr = w5.drewN d) (fun i _ => n - (intOf i).toNat)
        case atStart => exact ⟨0, 0, Nat.zero_le _, rfl, rfl⟩
        case round =>
          obtain ⟨j, d, hj, rfl, rfl⟩ := hrel
          by_cases hjl : j < n
          · have hjt : j < ts.length := by rw [← HN.out]; exact hjl
            obtain ⟨m, hm1, hm2, hm3⟩ := HSM.out j _ (List.getElem?_eq_getElem hjt)
            obtain ⟨a0, a1, a2⟩ := tok_cells HO5.out (List.getElem?_eq_getElem hjt)
            obtain ⟨b0, b1, b2⟩ := tok_cells HP5.out hm1
            clear a2 b2
            rw [hm2] at b0
            rw [hm3] at b1
            have hdj : decide (j < n) = true := by simp; omega
            clear hm1 hm2 hm3
            obtain ⟨tj, htj⟩ : ∃ tj, tj = ts[j] := ⟨_, rfl⟩
            rw [← htj] at a0 a1 b0 b1
            clear htj
            generalize (⟨tj.text.toArray⟩ : ByteArray) = tb at *
            generalize (tj.kind : Int) = kd at *
            clear hjt
            have n1 : (kd != kd) = false := by simp
            have n2 : (tb.toList != tb.toList) = false := by simp
            go_wp2_with fail
            go_quiet (fail)
            go_wp2
            go_roundw
            case rel => exact ⟨j + 1, d + nq, by omega, by go_num, rfl⟩
            case measure => simp [intOf]; omega
          · have hdj : decide (j < n) = false := by simpa using hjl
            go_wp2
            go_ret
            exact ⟨rfl, below_drewN HB5.out _⟩

theorem places_yes (s : ByteArray) (w : World) (hG : GlobS w) : Calls Tryd.prog 5 #[.string s] w (LawF w) := by
  by_cases h3 : 3000 < s.size
  · exact places_long s w hG h3
  cases h : toks s.data.toList with
  | error x => exact places_er s w hG (by omega) (x := x.1) (p := x.2) h
  | ok ts => exact places_ok s w hG (by omega) h
end Go.Proofs.YtfemddchaihokaaDoor
