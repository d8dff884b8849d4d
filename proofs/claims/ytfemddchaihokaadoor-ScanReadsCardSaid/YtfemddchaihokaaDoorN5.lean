/-
  ScanNames, walked.
-/
import Derived.Test.YtfemddchaihokaaDoorN2a
import Derived.Test.YtfemddchaihokaaDoorM6
namespace Go.Proofs.YtfemddchaihokaaDoor
open Go.RowKit

theorem app_list (a b : ByteArray) : (a ++ b).data.toList = a.data.toList ++ b.data.toList := by simp
theorem to_bytes (x : ByteArray) (l : List UInt8) (h : x.data.toList = l) : x = ⟨l.toArray⟩ := by rw [← h]
theorem owns_zero {w : World} {base size n : Nat} {e : TypeId} {v : Value} {xs : List Value} (h : w.ownsRow base e size v n xs) : w.ownsRow 0 e size v n xs := by
  refine ⟨h.1, ?_⟩
  rcases h.2 with h1 | ⟨g, cap, cur, h1, _, h3⟩
  · exact .inl h1
  · exact .inr ⟨g, cap, cur, h1, Nat.zero_le _, h3⟩
theorem new_ok {s : ByteArray} {ts : List Tok} (w : World) (hG : GlobS w) (hs : s.size ≤ 65536) (h : toks s.data.toList = .ok ts) :
    Calls Tryd.prog 14 #[.string s] w fun e w' => ∃ rb, e = .returned (.tuple #[.pointer (some ⟨rb, 0, none⟩), .nilIface]) ∧ w.heap.size ≤ rb ∧ RD w' rb ts 0 ∧ Below w.heap.size w w' := by
  have H := Lib.hid (tokens_ok w hG hs h)
  clear hG h
  go_enter Tryd.func14, Tryd.ntmps14
  go_wp2_with fail
  with_reducible refine (H.out).mono ?_
  rintro e w1 ⟨g, cap, rfl, h0, h1, ho, hb⟩
  have HO := Lib.hid ho
  have HB := Lib.hid hb
  obtain ⟨n, hn⟩ : ∃ n, n = ts.length := ⟨_, rfl⟩
  have HN := Lib.hid hn
  rw [← hn]
  clear ho hb hn
  go_wp2
  go_ret2
  refine ⟨w1.heap.size, rfl, HB.out.size, ⟨g, cap, ?_, (owns_zero HO.out).alloc _, h0, h1⟩, HB.out.alloc HB.out.size _⟩
  rw [← HN.out]
  exact heap_alloc_new w1 _

def NmRel (s : ByteArray) (x i : Value) : Prop := ∃ (k : Nat) (X : ByteArray) (r : List UInt8), i = .int .i64 (k : Int) ∧ x = .string X ∧ k ≤ s.size ∧ X.data.toList = 97 :: r ∧ (∀ c ∈ 97 :: r, nameB c = true) ∧ X.size ≤ k + 1
theorem nm_stay {s : ByteArray} {k : Nat} {X : ByteArray} (h : NmRel s (.string X) (.int .i64 (k : Int))) (hk : k < s.size) : NmRel s (.string X) (.int .i64 ((k : Int) + 1)) := by
  obtain ⟨k', X', r, h1, h2, h3, h4, h5, h6⟩ := h
  injection h1 with _ h1
  injection h2 with h2
  subst h2
  exact ⟨k + 1, X, r, by go_num, rfl, by omega, h4, h5, by omega⟩
theorem nm_more {s : ByteArray} {k : Nat} {X : ByteArray} (h : NmRel s (.string X) (.int .i64 (k : Int))) (hk : k < s.size) (hn : nameB (s[k]'hk) = true) : NmRel s (.string (X ++ s.extract k (k + 1))) (.int .i64 ((k : Int) + 1)) := by
  obtain ⟨k', X', r, h1, h2, h3, h4, h5, h6⟩ := h
  injection h1 with _ h1
  injection h2 with h2
  subst h2
  have hkl : k < s.data.toList.length := by rw [size_list]; exact hk
  have he : (s.extract k (k + 1)).data.toList = [s[k]'hk] := by
    rw [ext_list, Nat.add_sub_cancel_left, drop_cons _ k hkl]; rfl
  have ha : (X ++ s.extract k (k + 1)).data.toList = 97 :: (r ++ [s[k]'hk]) := by
    rw [app_list, he, h4]; rfl
  refine ⟨k + 1, X ++ s.extract k (k + 1), r ++ [s[k]'hk], by go_num, rfl, by omega, ha, ?_, ?_⟩
  · intro c hc
    rw [← List.cons_append] at hc
    rcases List.mem_append.1 hc with hc | hc
    · exact h5 c hc
    · rw [List.mem_singleton.1 hc]; exact hn
  · rw [← size_list, ha]
    rw [← size_list, h4] at h6
    simp at h6 ⊢
    omega
def DgRel (n : Nat) (W : World) (x q : Value) (wr : World) : Prop := ∃ (k : Nat) (d : List UInt8) (Y : ByteArray), x = .string Y ∧ Y.data.toList = d ∧ q = .int .u32 (k : Int) ∧ DigRel n k d ∧ k ≤ 4294967295 ∧ Below W.heap.size W wr

theorem names_long (s : ByteArray) (n : Int) (w : World) (hG : GlobS w) (h2 : 200 < s.size) : Calls Tryd.prog 8 #[.string s, .int .u32 n] w (LawF w) := by
  have H0 := Lib.hid (alive_yes w hG)
  have g1 : decide (200 < (s.size : Int)) = true := by simp; omega
  clear hG
  go_enter Tryd.func8, Tryd.ntmps8
  go_wp2_with fail
  with_reducible refine (H0.out).mono ?_
  rintro e w1 ⟨rfl, hb1⟩
  go_wp2
  go_ret
  exact ⟨rfl, hb1⟩

set_option maxRecDepth 100000 in
set_option maxHeartbeats 4000000 in
theorem names_ok (s : ByteArray) (n : Nat) (w : World) (hG : GlobS w) (h2 : s.size ≤ 200) (hn : n ≤ 4294967295) : Calls Tryd.prog 8 #[.string s, .int .u32 (n : Int)] w (LawF w) := by
  have hf0 := field0
  have H0 := Lib.hid (alive_yes w hG)
  have HG := Lib.hid hG
  have g1 : decide (200 < (s.size : Int)) = false := by simp; omega
  clear hG
  go_enter Tryd.func8, Tryd.ntmps8
  go_wp2_with fail
  with_reducible refine (H0.out).mono ?_
  rintro e w1 ⟨rfl, hb1⟩
  have HB1 := Lib.hid hb1
  clear hb1
  go_wp2_with fail
  go_loop [5, 6] (fun x i => NmRel s x i) (fun _ i => s.size - (intOf i).toNat)
  case atStart => exact ⟨0, ⟨#[97]⟩, [], rfl, rfl, Nat.zero_le _, rfl, by intro c hc; rw [List.mem_singleton.1 hc]; rfl, by decide⟩
  case round =>
    have HR := Lib.hid hrel
    obtain ⟨k, X, r, rfl, rfl, hk, hX, hX2, hX3⟩ := hrel
    by_cases hlt : k < s.size
    · clear hX hX2
      have hd1 : decide (k < s.size) = true := by simp; omega
      by_cases c1 : 97 ≤ ((s[k]'hlt).toNat : Int)
      · by_cases c2 : ((s[k]'hlt).toNat : Int) ≤ 122
        · go_wp2_with fail
          go_round
          case rel => exact nm_more HR.out hlt (by simp only [nameB, letterB, digitB, Bool.or_eq_true, Bool.and_eq_true, decide_eq_true_eq, beq_iff_eq]; omega)
          case measure => simp [intOf]; omega
        · have f0 : decide (((s[k]'hlt).toNat : Int) ≤ 122) = false := by simp; omega
          have f1 : 65 ≤ ((s[k]'hlt).toNat : Int) := by omega
          have f2 : decide (((s[k]'hlt).toNat : Int) ≤ 90) = false := by simp; omega
          have f3 : 48 ≤ ((s[k]'hlt).toNat : Int) := by omega
          have f4 : decide (((s[k]'hlt).toNat : Int) ≤ 57) = false := by simp; omega
          have f5 : (((s[k]'hlt).toNat : Int) == 95) = false := by rw [beq_eq_false_iff_ne]; omega
          go_wp2_with fail
          go_round
          case rel => exact nm_stay HR.out hlt
          case measure => simp [intOf]; omega
      · by_cases c3 : 65 ≤ ((s[k]'hlt).toNat : Int)
        · by_cases c4 : ((s[k]'hlt).toNat : Int) ≤ 90
          · have f0 : decide (97 ≤ ((s[k]'hlt).toNat : Int)) = false := by simp; omega
            go_wp2_with fail
            go_round
            case rel => exact nm_more HR.out hlt (by simp only [nameB, letterB, digitB, Bool.or_eq_true, Bool.and_eq_true, decide_eq_true_eq, beq_iff_eq]; omega)
            case measure => simp [intOf]; omega
          · by_cases c5 : ((s[k]'hlt).toNat : Int) = 95
            · have f0 : decide (97 ≤ ((s[k]'hlt).toNat : Int)) = false := by simp; omega
              have f1 : decide (((s[k]'hlt).toNat : Int) ≤ 90) = false := by simp; omega
              have f2 : 48 ≤ ((s[k]'hlt).toNat : Int) := by omega
              have f3 : decide (((s[k]'hlt).toNat : Int) ≤ 57) = false := by simp; omega
              have f4 : (((s[k]'hlt).toNat : Int) == 95) = true := by rw [beq_iff_eq]; omega
              go_wp2_with fail
              go_round
              case rel => exact nm_more HR.out hlt (by simp only [nameB, letterB, digitB, Bool.or_eq_true, Bool.and_eq_true, decide_eq_true_eq, beq_iff_eq]; omega)
              case measure => simp [intOf]; omega
            · have f0 : decide (97 ≤ ((s[k]'hlt).toNat : Int)) = false := by simp; omega
              have f1 : decide (((s[k]'hlt).toNat : Int) ≤ 90) = false := by simp; omega
              have f2 : 48 ≤ ((s[k]'hlt).toNat : Int) := by omega
              have f3 : decide (((s[k]'hlt).toNat : Int) ≤ 57) = false := by simp; omega
              have f4 : (((s[k]'hlt).toNat : Int) == 95) = false := by rw [beq_eq_false_iff_ne]; omega
              go_wp2_with fail
              go_round
              case rel => exact nm_stay HR.out hlt
              case measure => simp [intOf]; omega
        · by_cases c6 : 48 ≤ ((s[k]'hlt).toNat : Int)
          · by_cases c7 : ((s[k]'hlt).toNat : Int) ≤ 57
            · have f0 : decide (97 ≤ ((s[k]'hlt).toNat : Int)) = false := by simp; omega
              have f1 : decide (65 ≤ ((s[k]'hlt).toNat : Int)) = false := by simp; omega
              go_wp2_with fail
              go_round
              case rel => exact nm_more HR.out hlt (by simp only [nameB, letterB, digitB, Bool.or_eq_true, Bool.and_eq_true, decide_eq_true_eq, beq_iff_eq]; omega)
              case measure => simp [intOf]; omega
            · have f0 : decide (97 ≤ ((s[k]'hlt).toNat : Int)) = false := by simp; omega
              have f1 : decide (65 ≤ ((s[k]'hlt).toNat : Int)) = false := by simp; omega
              have f2 : decide (((s[k]'hlt).toNat : Int) ≤ 57) = false := by simp; omega
              have f3 : (((s[k]'hlt).toNat : Int) == 95) = false := by rw [beq_eq_false_iff_ne]; omega
              go_wp2_with fail
              go_round
              case rel => exact nm_stay HR.out hlt
              case measure => simp [intOf]; omega
          · have f0 : decide (97 ≤ ((s[k]'hlt).toNat : Int)) = false := by simp; omega
            have f1 : decide (65 ≤ ((s[k]'hlt).toNat : Int)) = false := by simp; omega
            have f2 : decide (48 ≤ ((s[k]'hlt).toNat : Int)) = false := by simp; omega
            have f3 : (((s[k]'hlt).toNat : Int) == 95) = false := by rw [beq_eq_false_iff_ne]; omega
            go_wp2_with fail
            go_round
            case rel => exact nm_stay HR.out hlt
            case measure => simp [intOf]; omega
    · have hd1 : decide (k < s.size) = false := by simpa using hlt
      have HX := Lib.hid hX
      have HX2 := Lib.hid hX2
      have hX3' : X.size ≤ 201 := by omega
      clear hX hX2 hX3 HR
      go_wp2_with fail
      go_loopw [8, 9] (fun x q wr => DgRel n w1 x q wr) (fun _ q _ => (intOf q).toNat)
      case atStart => exact ⟨n, [], ⟨#[]⟩, rfl, rfl, rfl, dig_start n, hn, Below.refl _ _⟩
      case round =>
        obtain ⟨q, d, Y, rfl, hY, rfl, hdr, hq, hbr⟩ := hrel
        have hdl := dig_len hdr (by omega)
        have hcv := run_convert_bytes_back (P := Tryd.prog) (wr.alloc (.cells #[.int .u8 (48 + (q : Int) % 10)] 5)) 53 9 5 ⟨wr.heap.size, 0, none⟩ 1 [digOf q] Tryd.underlying53 Tryd.underlying5 Tryd.underlying9 (by
          intro j hj
          have hj0 : j = 0 := by simpa using hj
          subst hj0
          simp only [List.getElem_cons_zero]
          rw [digOf_nat]
          simp [Addr.add])
        simp only [List.length_cons, List.length_nil, Nat.zero_add] at hcv
        have hYs : Y.size ≤ 9 := by rw [← size_list, hY]; exact hdl
        have HY2 := Lib.hid (show ((⟨[digOf q].toArray⟩ : ByteArray) ++ Y).data.toList = digOf q :: d by rw [← hY]; simp)
        have HDR := Lib.hid hdr
        have HBR := Lib.hid hbr
        have m0 : (0 : Int) ≤ (q : Int) % 10 := by omega
        have m1 : (q : Int) % 10 ≤ 9 := by omega
        have q0 : (0 : Int) ≤ (q : Int) := by omega
        have q1 : (q : Int) ≤ 4294967295 := by omega
        clear hdr hbr hY hdl
        by_cases h10 : q < 10
        · have g10 : decide ((q : Int) < 10) = true := by simp; omega
          obtain ⟨hval, hlen⟩ := dig_last HDR.out (by omega) h10
          have hz : (X ++ ⟨#[32]⟩ ++ ((⟨#[digOf q]⟩ : ByteArray) ++ Y)).data.toList = (97 :: r) ++ 32 :: (digOf q :: d) := by
            rw [app_list, app_list, HX.out, HY2.out]; simp
          have ht : toks (X ++ ⟨#[32]⟩ ++ ((⟨#[digOf q]⟩ : ByteArray) ++ Y)).data.toList = .ok [⟨1, 97 :: r, 0⟩, ⟨2, digOf q :: d, (97 :: r).length + 1⟩, ⟨0, [], (97 :: r).length + 1 + (digOf q :: d).length⟩] := by
            rw [hz]; exact name_toks (97 :: r) (digOf q :: d) 97 r rfl rfl HX2.out (by simp) (dig_all HDR.out) (by omega)
          have hsz : (X ++ ⟨#[32]⟩ ++ ((⟨#[digOf q]⟩ : ByteArray) ++ Y)).size ≤ 65536 := by
            have e1 : (97 :: r).length ≤ 201 := by rw [← HX.out, size_list]; exact hX3'
            rw [← size_list, hz]
            simp only [List.length_append, List.length_cons] at e1 hlen ⊢
            omega
          have HB2 := Lib.hid ((HB1.out.trans (HBR.out.mono HB1.out.size)).alloc (Nat.le_trans HB1.out.size HBR.out.size) (.cells #[.int .u8 (48 + (q : Int) % 10)] 5))
          have H3 := Lib.hid (new_ok _ (HG.out.below HB2.out) hsz ht)
          have HV := Lib.hid hval
          have HL := Lib.hid hlen
          clear hz ht hsz hval hlen
          go_wp2_with fail
          with_reducible refine (H3.out).mono ?_
          rintro e w3 ⟨rb, rfl, hrb, hR, hb3⟩
          have HB3 := Lib.hid (HB2.out.trans (hb3.mono HB2.out.size))
          have h4 := name_yes hR (t := ⟨1, 97 :: r, 0⟩) rfl rfl (by simp)
          rw [← to_bytes X (97 :: r) HX.out] at h4
          have H4 := Lib.hid h4
          have HR3 := Lib.hid hR
          have hrl : w.heap.size ≤ rb := by
            have a1 := HB1.out.size
            have a2 := HBR.out.size
            simp at hrb
            omega
          clear hb3 hR h4 hcv
          go_wp2_with fail
          with_reducible refine (H4.out).mono ?_
          rintro e w4 ⟨rfl, hR4, hg4⟩
          have HG4 := Lib.hid (glob_grown (HG.out.below HB3.out) HR3.out hg4)
          have HB4 := Lib.hid (below_grown HB3.out hg4 hrl)
          have h5 := number_yes HG4.out hR4 (t := ⟨2, digOf q :: d, (97 :: r).length + 1⟩) rfl rfl (by simp) (by have := HL.out; simp only; omega) (by simp) (dig_all HDR.out) (by rw [HV.out]; omega)
          simp only at h5
          rw [HV.out] at h5
          have H5 := Lib.hid h5
          clear hR4 hg4 h5
          go_wp2_with fail
          with_reducible refine (H5.out).mono ?_
          rintro e w5 ⟨rfl, hR5, hg5⟩
          have HB5 := Lib.hid (below_grown HB4.out hg5 hrl)
          have h6 := peek_at hR5 (t := ⟨0, [], (97 :: r).length + 1 + (digOf q :: d).length⟩) rfl
          unfold PeekIs tokV at h6
          have H6 := Lib.hid h6
          have n1 : ((n : Int) == (n : Int)) = true := by simp
          have n2 : (X.toList == X.toList) = true := by simp
          have n3 : (0 : Int) ≤ (n : Int) := by omega
          have n4 : (n : Int) ≤ 4294967295 := by omega
          clear hR5 hg5 h6
          go_wp2_with fail
          with_reducible refine (H6.out).mono ?_
          rintro e w6 ⟨rfl, hb6⟩
          have HB6 := Lib.hid (HB5.out.trans (hb6.mono HB5.out.size))
          clear hb6
          go_wp2
          go_ret
          exact ⟨rfl, HB6.out⟩
        · have g10 : decide ((q : Int) < 10) = false := by simp; omega
          have HM := Lib.hid (dig_more HDR.out (by omega) (by omega))
          go_wp2_with fail
          go_roundw
          case rel => exact ⟨q / 10, digOf q :: d, _, rfl, HY2.out, by go_num, HM.out, by omega, HBR.out.alloc HBR.out.size _⟩
          case measure => simp [intOf]; omega

theorem names_yes (s : ByteArray) (n : Int) (w : World) (hG : GlobS w) (h0 : 0 ≤ n ∧ n ≤ 4294967295) : Calls Tryd.prog 8 #[.string s, .int .u32 n] w (LawF w) := by
  by_cases h2 : 200 < s.size
  · exact names_long s n w hG h2
  · obtain ⟨m, rfl⟩ := Int.eq_ofNat_of_zero_le h0.1
    exact names_ok s m w hG (by omega) (by omega)
end Go.Proofs.YtfemddchaihokaaDoor
