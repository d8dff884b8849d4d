/-
  The document's own Tokens, walked.
-/
import Derived.Test.YtjhicgllofjpoaaGreatDoorRA
namespace Go.Proofs.YtjhicgllofjpoaaGreatDoor
open Go.RowKit

theorem three_src (W : World) (e : TypeId) (x y z : Value) : ∀ (j : Nat) (u : Value), [x, y, z][j]? = some u → (W.alloc (.cells #[x, y, z] e)).cell? ((⟨W.heap.size, 0, none⟩ : Addr).add j) = some u := by
  intro j u hj
  match j, hj with
  | 0, hj => simp at hj; subst hj; simp [Addr.add]
  | 1, hj => simp at hj; subst hj; simp [Addr.add]
  | 2, hj => simp at hj; subst hj; simp [Addr.add]
theorem one_src (a c : Int) (x : ByteArray) : ∀ u ∈ [Value.int .i64 a, .string x, .int .i64 c], u.oneCell' = true := by
  intro u hu
  simp at hu
  rcases hu with rfl | rfl | rfl <;> rfl
theorem ref_rel {l : List UInt8} {w0 w3 : World} {acc : List Tok} {k n : Nat} {v3 : Value} {kd : Nat} {tx : List UInt8} (ht : toks l = onto (acc ++ [⟨kd, tx, k⟩]) (scanG l (k + n))) (hn : 0 < n) (hkn : k + n ≤ l.length) (hacc : acc.length ≤ k) {x : ByteArray} (hx : x.data.toList = tx)
    (ho : w3.ownsRow w0.heap.size 70 3 v3 (acc.length + 1) (cellsT acc ++ [.int .i64 (kd : Int), .string x, .int .i64 (k : Int)])) (hb : Below w0.heap.size w0 w3) : RefRel l w0 v3 (.int .i64 ((k + n : Nat) : Int)) w3 := by
  refine ⟨acc ++ [⟨kd, tx, k⟩], k + n, rfl, hkn, ht, by simp; omega, ?_, hb⟩
  rw [cellsT_snoc, List.length_append]
  unfold tokC
  rw [← hx, ← strV_eq rfl]
  exact ho
set_option maxRecDepth 100000 in
set_option maxHeartbeats 4000000 in
theorem rtokens_any (s : ByteArray) (w : World) (hs : s.size ≤ 65536) : Calls Tryz.prog 48 #[.string s] w (RefP (toks s.data.toList) w) := by
  have HZ := Lib.hid (size_list s)
  obtain ⟨i0, hi0, hz⟩ := Option.map_eq_some_iff.1 infoRk
  simp only [Prod.mk.injEq] at hz
  obtain ⟨hz0, hz1, hz2⟩ := hz
  have HZ0 := Lib.hid hz0
  have HZ1 := Lib.hid hz1
  have HZ2 := Lib.hid hz2
  have HI := Lib.hid hi0
  have g65 : decide (65536 < (s.size : Int)) = false := by simp; omega
  clear hz0 hz1 hz2 hi0
  go_enter Tryz.func48, Tryz.ntmps48
  go_wp2_with fail
  clear g65
  go_loopw [5, 6] (fun v i wr => RefRel s.data.toList w v i wr) (fun _ i _ => s.size - (intOf i).toNat)
  case atStart => exact ⟨[], 0, rfl, Nat.zero_le _, by rw [toks_eq, onto_nil], Nat.zero_le _, World.ownsRow_nil _ _ _ _, Below.refl _ _⟩
  case round =>
    obtain ⟨acc, k, rfl, hk, htk, hacc, hown, hbw⟩ := hrel
    rw [HZ.out] at hk
    have HOW := Lib.hid hown
    have HBW := Lib.hid hbw
    clear hown hbw
    by_cases hlt : k < s.size
    · have hkl : k < s.data.toList.length := by rw [HZ.out]; exact hlt
      have hbyte : s.data.toList[k] = s[k]'hlt := rfl
      by_cases hbl : blankB (s[k]'hlt) = true
      · have HT := Lib.hid (ref_blank hkl hbl htk)
        clear htk hkl hbyte
        by_cases b1 : (s[k]'hlt).toNat = 32
        · have g1 : (((s[k]'hlt).toNat : Int) == 32) = true := by rw [b1]; rfl
          clear b1 hbl
          go_wp2_with fail
          go_roundw
          case rel => exact ⟨acc, k + 1, by go_num, by rw [HZ.out]; omega, HT.out, by omega, HOW.out, HBW.out⟩
          case measure => simp [intOf]; omega
        have g1 : (((s[k]'hlt).toNat : Int) == 32) = false := ne_nat b1
        by_cases b2 : (s[k]'hlt).toNat = 9
        · have g2 : (((s[k]'hlt).toNat : Int) == 9) = true := by rw [b2]; rfl
          clear b1 b2 hbl
          go_wp2_with fail
          go_roundw
          case rel => exact ⟨acc, k + 1, by go_num, by rw [HZ.out]; omega, HT.out, by omega, HOW.out, HBW.out⟩
          case measure => simp [intOf]; omega
        have g2 : (((s[k]'hlt).toNat : Int) == 9) = false := ne_nat b2
        by_cases b3 : (s[k]'hlt).toNat = 10
        · have g3 : (((s[k]'hlt).toNat : Int) == 10) = true := by rw [b3]; rfl
          clear b1 b2 b3 hbl
          go_wp2_with fail
          go_roundw
          case rel => exact ⟨acc, k + 1, by go_num, by rw [HZ.out]; omega, HT.out, by omega, HOW.out, HBW.out⟩
          case measure => simp [intOf]; omega
        have g3 : (((s[k]'hlt).toNat : Int) == 10) = false := ne_nat b3
        have b4 : (s[k]'hlt).toNat = 13 := by
          simp only [blankB, Bool.or_eq_true, beq_iff_eq] at hbl; omega
        have g4 : (((s[k]'hlt).toNat : Int) == 13) = true := by rw [b4]; rfl
        clear b1 b2 b3 b4 hbl
        go_wp2_with fail
        go_roundw
        case rel => exact ⟨acc, k + 1, by go_num, by rw [HZ.out]; omega, HT.out, by omega, HOW.out, HBW.out⟩
        case measure => simp [intOf]; omega
      · have hbl' : blankB (s[k]'hlt) = false := by simpa using hbl
        have g1 : (((s[k]'hlt).toNat : Int) == 32) = false := ne_nat (fun h => by simp [blankB, h] at hbl')
        have g2 : (((s[k]'hlt).toNat : Int) == 9) = false := ne_nat (fun h => by simp [blankB, h] at hbl')
        have g3 : (((s[k]'hlt).toNat : Int) == 10) = false := ne_nat (fun h => by simp [blankB, h] at hbl')
        have g4 : (((s[k]'hlt).toNat : Int) == 13) = false := ne_nat (fun h => by simp [blankB, h] at hbl')
        have hbz : (s[k]'hlt).toNat ≠ 47 → blanks false (s.data.toList.drop k) = 0 := fun h => blanks_none hkl hbl' (fun hx => h hx.1)
        have hca := fun W : World => letter_any (s[k]'hlt) W
        have hcf := fun W : World => figure_any (s[k]'hlt) W
        unfold letP at hca
        unfold figP at hcf
        by_cases hle : letterB (s[k]'hlt) = true
        · as_aux_lemma =>
            have hnm : nameB (s[k]'hlt) = true := by simp [nameB, hle]
            have hon := ref_on hkl (hbz (by intro h; simp [letterB, h] at hle)) htk (meas_letter hkl (letter_digit hle) hle)
            rw [show bareL 1 ((s.data.toList.drop k).take (cnt nameB (s.data.toList.drop k))) = (s.data.toList.drop k).take (cnt nameB (s.data.toList.drop k)) from rfl] at hon
            have hnp : 0 < cnt nameB (s.data.toList.drop k) := by rw [drop_cons _ k hkl, cnt_cons_pos _ (by rw [hbyte]; exact hnm)]; omega
            have hcl := cnt_le nameB (s.data.toList.drop k)
            rw [List.length_drop, HZ.out] at hcl
            have g5 : (((s[k]'hlt).toNat : Int) == 47) = false := ne_nat (fun h => by simp [letterB, h] at hle)
            rw [hle] at hca
            have HA := Lib.hid hca
            have HON := Lib.hid hon
            have HNP := Lib.hid hnp
            clear hca hcf hon hnp hbz hbl hbl' hle hnm htk hbyte hkl
            go_wp2_with fail
            with_reducible refine (HA.out wr).mono ?_
            rintro e w' ⟨rfl, rfl⟩
            go_wp2_with fail
            go_loop [8] (fun i => ∃ m : Nat, k ≤ m ∧ m ≤ s.size ∧ Hid (m - k ≤ cnt nameB (s.data.toList.drop k)) ∧ i = .int .i64 m) (fun i => s.size - (intOf i).toNat)
            case atStart => exact ⟨k, Nat.le_refl _, by omega, Lib.hid (by omega), rfl⟩
            case round =>
              obtain ⟨m, hkm, hms, HM, rfl⟩ := hrel
              by_cases hmlt : m < s.size
              · have hml : m < s.data.toList.length := by rw [HZ.out]; exact hmlt
                have hla := letter_any (s[m]'hmlt) wr
                have hlf := figure_any (s[m]'hmlt) wr
                unfold letP at hla
                unfold figP at hlf
                have hat := cntd_at (p := nameB) hml hkm HM.out
                have hst := cntd_stop (p := nameB) hml hkm HM.out
                have hby : s.data.toList[m] = s[m]'hmlt := rfl
                rw [hby] at hat hst
                cases hpa : letterB (s[m]'hmlt) with
                | true =>
                  have HAT := Lib.hid (hat (by simp [nameB, hpa]))
                  rw [hpa] at hla
                  have HLA := Lib.hid hla
                  clear hla hlf hat hst hby hpa hml
                  go_wp2_with fail
                  with_reducible refine (HLA.out).mono ?_
                  rintro e w' ⟨rfl, rfl⟩
                  go_wp2_with fail
                  go_round
                  case rel => exact ⟨m + 1, by omega, by omega, HAT, by go_num⟩
                  case measure => simp [intOf]; omega
                | false =>
                  cases hpf : digitB (s[m]'hmlt) with
                  | true =>
                    have HAT := Lib.hid (hat (by simp [nameB, hpf]))
                    rw [hpa] at hla
                    rw [hpf] at hlf
                    have HLA := Lib.hid hla
                    have HLF := Lib.hid hlf
                    clear hla hlf hat hst hby hpa hpf hml
                    go_wp2_with fail
                    with_reducible refine (HLA.out).mono ?_
                    rintro e w' ⟨rfl, rfl⟩
                    go_wp2_with fail
                    with_reducible refine (HLF.out).mono ?_
                    rintro e w' ⟨rfl, rfl⟩
                    go_wp2_with fail
                    go_round
                    case rel => exact ⟨m + 1, by omega, by omega, HAT, by go_num⟩
                    case measure => simp [intOf]; omega
                  | false =>
                    have HME := Lib.hid (hst (by simp [nameB, hpa, hpf]))
                    rw [hpa] at hla
                    rw [hpf] at hlf
                    have HLA := Lib.hid hla
                    have HLF := Lib.hid hlf
                    clear hla hlf hat hst hby hpa hpf hml
                    go_wp2_with fail
                    with_reducible refine (HLA.out).mono ?_
                    rintro e w' ⟨rfl, rfl⟩
                    go_wp2_with fail
                    with_reducible refine (HLF.out).mono ?_
                    rintro e w' ⟨rfl, rfl⟩
                    have hz2 : w.heap.size ≤ wr.heap.size := HBW.out.size
                    go_wp2_with (at_builtin; refine wpList_append_own _ rfl _ _ 66 rfl w.heap.size 70 i0 (.agg #[.int .i64 0, .string ⟨#[]⟩, .int .i64 0]) 3 32 Tryz.underlying66 HI.out HZ0.out HZ1.out HZ2.out rfl (by decide) _ _ _ rfl (HOW.out.alloc _) ⟨wr.heap.size, 0, none⟩ 1 1 [.int .i64 1, .string (s.extract k m), .int .i64 k] rfl rfl (three_src _ _ _ _ _) (one_src _ _ _) (by unfold maxLen; omega) (by omega) (by simp; omega) ?_)
                    intro v3 w3 hown3 hgrow3 _
                    have HB3 := Lib.hid ((HBW.out.alloc hz2 _).grown hgrow3 (by simp; omega) (fun g hg => owns_lt HOW.out g hg))
                    have HO3 := Lib.hid hown3
                    clear hown3 hgrow3
                    go_wp2_with fail
                    go_roundw
                    case rel =>
                      have e := HME.out
                      rw [e]
                      exact ref_rel HON.out HNP.out (by rw [HZ.out]; omega) hacc (by rw [ext_list, e, Nat.add_sub_cancel_left]) HO3.out HB3.out
                    case measure => have e := HME.out; have := HNP.out; simp [intOf]; omega
              · have HME := Lib.hid (cntd_end (p := nameB) (by rw [HZ.out]; omega) hkm (by rw [HZ.out]; omega) HM.out)
                have g : decide (m < s.size) = false := by simpa using hmlt
                have hz2 : w.heap.size ≤ wr.heap.size := HBW.out.size
                go_wp2_with (at_builtin; refine wpList_append_own _ rfl _ _ 66 rfl w.heap.size 70 i0 (.agg #[.int .i64 0, .string ⟨#[]⟩, .int .i64 0]) 3 32 Tryz.underlying66 HI.out HZ0.out HZ1.out HZ2.out rfl (by decide) _ _ _ rfl (HOW.out.alloc _) ⟨wr.heap.size, 0, none⟩ 1 1 [.int .i64 1, .string (s.extract k m), .int .i64 k] rfl rfl (three_src _ _ _ _ _) (one_src _ _ _) (by unfold maxLen; omega) (by omega) (by simp; omega) ?_)
                intro v3 w3 hown3 hgrow3 _
                have HB3 := Lib.hid ((HBW.out.alloc hz2 _).grown hgrow3 (by simp; omega) (fun g hg => owns_lt HOW.out g hg))
                have HO3 := Lib.hid hown3
                clear hown3 hgrow3
                go_wp2_with fail
                go_roundw
                case rel =>
                  have e := HME.out
                  rw [e]
                  exact ref_rel HON.out HNP.out (by rw [HZ.out]; omega) hacc (by rw [ext_list, e, Nat.add_sub_cancel_left]) HO3.out HB3.out
                case measure => have e := HME.out; have := HNP.out; simp [intOf]; omega
        by_cases hdi : digitB (s[k]'hlt) = true
        · as_aux_lemma =>
            have hdn : letterB (s[k]'hlt) = false := by simpa using hle
            have hm := meas_digit hkl hdi
            have hod : (valOf ((s.data.toList.drop k).takeWhile digitB) < 9223372036854775808 → toks s.data.toList = onto (acc ++ [⟨2, bareL 2 ((s.data.toList.drop k).take (cnt digitB (s.data.toList.drop k))), k⟩]) (scanG s.data.toList (k + cnt digitB (s.data.toList.drop k)))) ∧
                (¬ valOf ((s.data.toList.drop k).takeWhile digitB) < 9223372036854775808 → toks s.data.toList = .error (10, k)) := by
              have hb0 := hbz (by intro h; simp [digitB, h] at hdi)
              refine ⟨fun h => ?_, fun h => ?_⟩
              · rw [if_pos h] at hm; exact ref_on hkl hb0 htk hm
              · rw [if_neg h] at hm; exact ref_er hkl hb0 htk hm (by decide)
            have HOD := Lib.hid hod
            have hnp : 0 < cnt digitB (s.data.toList.drop k) := by rw [drop_cons _ k hkl, cnt_cons_pos _ (by rw [hbyte]; exact hdi)]; omega
            have hcl := cnt_le digitB (s.data.toList.drop k)
            rw [List.length_drop, HZ.out] at hcl
            have g5 : (((s[k]'hlt).toNat : Int) == 47) = false := ne_nat (fun h => by simp [digitB, h] at hdi)
            rw [hdn] at hca
            rw [hdi] at hcf
            have HA := Lib.hid hca
            have HF := Lib.hid hcf
            have HNP := Lib.hid hnp
            clear hca hcf hod hnp hbz hbl hbl' hle hdi hdn htk hbyte hkl hm
            go_wp2_with fail
            with_reducible refine (HA.out wr).mono ?_
            rintro e w' ⟨rfl, rfl⟩
            go_wp2_with fail
            with_reducible refine (HF.out wr).mono ?_
            rintro e w' ⟨rfl, rfl⟩
            go_wp2_with fail
            go_loop [8] (fun i => ∃ m : Nat, k ≤ m ∧ m ≤ s.size ∧ Hid (m - k ≤ cnt digitB (s.data.toList.drop k)) ∧ i = .int .i64 m) (fun i => s.size - (intOf i).toNat)
            case atStart => exact ⟨k, Nat.le_refl _, by omega, Lib.hid (by omega), rfl⟩
            case round =>
              obtain ⟨m, hkm, hms, HM, rfl⟩ := hrel
              by_cases hmlt : m < s.size
              · have hml : m < s.data.toList.length := by rw [HZ.out]; exact hmlt
                have hlf := figure_any (s[m]'hmlt) wr
                unfold figP at hlf
                have hat := cntd_at (p := digitB) hml hkm HM.out
                have hst := cntd_stop (p := digitB) hml hkm HM.out
                have hby : s.data.toList[m] = s[m]'hmlt := rfl
                rw [hby] at hat hst
                cases hpf : digitB (s[m]'hmlt) with
                | true =>
                  have HAT := Lib.hid (hat hpf)
                  rw [hpf] at hlf
                  have HLF := Lib.hid hlf
                  clear hlf hat hst hby hpf hml
                  go_wp2_with fail
                  with_reducible refine (HLF.out).mono ?_
                  rintro e w' ⟨rfl, rfl⟩
                  go_wp2_with fail
                  go_round
                  case rel => exact ⟨m + 1, by omega, by omega, HAT, by go_num⟩
                  case measure => simp [intOf]; omega
                | false =>
                  have HME := Lib.hid (hst hpf)
                  rw [hpf] at hlf
                  have HLF := Lib.hid hlf
                  clear hlf hat hst hby hpf hml
                  have hme := HME.out
                  have hx : (s.extract k m).data.toList = (s.data.toList.drop k).takeWhile digitB := by rw [ext_list, hme, Nat.add_sub_cancel_left, take_cnt]
                  have hva := value_any (s.extract k m) wr (by simp only [ByteArray.size_extract]; omega) (by rw [hx]; exact while_digits _)
                  rw [hx] at hva
                  unfold valP valT at hva
                  clear hme hx
                  by_cases hv : valOf ((s.data.toList.drop k).takeWhile digitB) < 9223372036854775808
                  · rw [if_pos hv] at hva
                    have HVA := Lib.hid hva
                    have hon := HOD.out.1 hv
                    rw [show bareL 2 ((s.data.toList.drop k).take (cnt digitB (s.data.toList.drop k))) = (s.data.toList.drop k).take (cnt digitB (s.data.toList.drop k)) from rfl] at hon
                    have HON := Lib.hid hon
                    clear hva hv hon HOD
                    go_wp2_with fail
                    with_reducible refine (HLF.out).mono ?_
                    rintro e w' ⟨rfl, rfl⟩
                    go_wp2_with fail
                    with_reducible refine (HVA.out).mono ?_
                    rintro e w' ⟨rfl, rfl⟩
                    have hz2 : w.heap.size ≤ wr.heap.size := HBW.out.size
                    go_wp2_with (at_builtin; refine wpList_append_own _ rfl _ _ 66 rfl w.heap.size 70 i0 (.agg #[.int .i64 0, .string ⟨#[]⟩, .int .i64 0]) 3 32 Tryz.underlying66 HI.out HZ0.out HZ1.out HZ2.out rfl (by decide) _ _ _ rfl (HOW.out.alloc _) ⟨wr.heap.size, 0, none⟩ 1 1 [.int .i64 2, .string (s.extract k m), .int .i64 k] rfl rfl (three_src _ _ _ _ _) (one_src _ _ _) (by unfold maxLen; omega) (by omega) (by simp; omega) ?_)
                    intro v3 w3 hown3 hgrow3 _
                    have HB3 := Lib.hid ((HBW.out.alloc hz2 _).grown hgrow3 (by simp; omega) (fun g hg => owns_lt HOW.out g hg))
                    have HO3 := Lib.hid hown3
                    clear hown3 hgrow3
                    go_wp2_with fail
                    go_roundw
                    case rel =>
                      have e := HME.out
                      rw [e]
                      exact ref_rel HON.out HNP.out (by rw [HZ.out]; omega) hacc (by rw [ext_list, e, Nat.add_sub_cancel_left]) HO3.out HB3.out
                    case measure => have e := HME.out; have := HNP.out; simp [intOf]; omega
                  · rw [if_neg hv] at hva
                    have HVA := Lib.hid hva
                    have HER := Lib.hid (HOD.out.2 hv)
                    clear hva hv HOD
                    go_wp2_with fail
                    with_reducible refine (HLF.out).mono ?_
                    rintro e w' ⟨rfl, rfl⟩
                    go_wp2_with fail
                    with_reducible refine (HVA.out).mono ?_
                    rintro e w' ⟨rfl, rfl⟩
                    go_wp2
                    go_ret3
                    exact .inr ⟨10, k, HER.out, rfl, by decide, HBW.out⟩
              · have HME := Lib.hid (cntd_end (p := digitB) (by rw [HZ.out]; omega) hkm (by rw [HZ.out]; omega) HM.out)
                have g : decide (m < s.size) = false := by simpa using hmlt
                have hme := HME.out
                have hx : (s.extract k m).data.toList = (s.data.toList.drop k).takeWhile digitB := by rw [ext_list, hme, Nat.add_sub_cancel_left, take_cnt]
                have hva := value_any (s.extract k m) wr (by simp only [ByteArray.size_extract]; omega) (by rw [hx]; exact while_digits _)
                rw [hx] at hva
                unfold valP valT at hva
                clear hme hx
                by_cases hv : valOf ((s.data.toList.drop k).takeWhile digitB) < 9223372036854775808
                · rw [if_pos hv] at hva
                  have HVA := Lib.hid hva
                  have hon := HOD.out.1 hv
                  rw [show bareL 2 ((s.data.toList.drop k).take (cnt digitB (s.data.toList.drop k))) = (s.data.toList.drop k).take (cnt digitB (s.data.toList.drop k)) from rfl] at hon
                  have HON := Lib.hid hon
                  clear hva hv hon HOD
                  go_wp2_with fail
                  with_reducible refine (HVA.out).mono ?_
                  rintro e w' ⟨rfl, rfl⟩
                  have hz2 : w.heap.size ≤ wr.heap.size := HBW.out.size
                  go_wp2_with (at_builtin; refine wpList_append_own _ rfl _ _ 66 rfl w.heap.size 70 i0 (.agg #[.int .i64 0, .string ⟨#[]⟩, .int .i64 0]) 3 32 Tryz.underlying66 HI.out HZ0.out HZ1.out HZ2.out rfl (by decide) _ _ _ rfl (HOW.out.alloc _) ⟨wr.heap.size, 0, none⟩ 1 1 [.int .i64 2, .string (s.extract k m), .int .i64 k] rfl rfl (three_src _ _ _ _ _) (one_src _ _ _) (by unfold maxLen; omega) (by omega) (by simp; omega) ?_)
                  intro v3 w3 hown3 hgrow3 _
                  have HB3 := Lib.hid ((HBW.out.alloc hz2 _).grown hgrow3 (by simp; omega) (fun g hg => owns_lt HOW.out g hg))
                  have HO3 := Lib.hid hown3
                  clear hown3 hgrow3
                  go_wp2_with fail
                  go_roundw
                  case rel =>
                    have e := HME.out
                    rw [e]
                    exact ref_rel HON.out HNP.out (by rw [HZ.out]; omega) hacc (by rw [ext_list, e, Nat.add_sub_cancel_left]) HO3.out HB3.out
                  case measure => have e := HME.out; have := HNP.out; simp [intOf]; omega
                · rw [if_neg hv] at hva
                  have HVA := Lib.hid hva
                  have HER := Lib.hid (HOD.out.2 hv)
                  clear hva hv HOD
                  go_wp2_with fail
                  with_reducible refine (HVA.out).mono ?_
                  rintro e w' ⟨rfl, rfl⟩
                  go_wp2
                  go_ret3
                  exact .inr ⟨10, k, HER.out, rfl, by decide, HBW.out⟩
        by_cases hqu : quoteB (s[k]'hlt) = true
        · as_aux_lemma =>
            obtain ⟨hdi', hle'⟩ := quote_digit hqu
            have hm := meas_quote hkl hqu
            have hb0 := hbz (by intro h; simp [quoteB, h] at hqu)
            have hod : (labN (s.data.toList.drop (k + 1)) ≠ 0 → toks s.data.toList = onto (acc ++ [⟨3, bareL 3 ((s.data.toList.drop k).take (labN (s.data.toList.drop (k + 1)))), k⟩]) (scanG s.data.toList (k + labN (s.data.toList.drop (k + 1))))) ∧
                (labN (s.data.toList.drop (k + 1)) = 0 → toks s.data.toList = .error (20, k)) := by
              refine ⟨fun h => ?_, fun h => ?_⟩
              · rw [if_neg h] at hm; exact ref_on hkl hb0 htk hm
              · rw [if_pos h] at hm; exact ref_er hkl hb0 htk hm (by decide)
            have HOD := Lib.hid hod
            have hcl := cnt_le labelB (s.data.toList.drop (k + 1))
            rw [List.length_drop, HZ.out] at hcl
            have hq : (s[k]'hlt).toNat = 34 := by simpa [quoteB] using hqu
            have g5 : (((s[k]'hlt).toNat : Int) == 47) = false := ne_nat (n := 47) (by omega)
            have g6 : (((s[k]'hlt).toNat : Int) == 34) = true := by rw [hq]; rfl
            rw [hle'] at hca
            rw [hdi'] at hcf
            have HA := Lib.hid hca
            have HF := Lib.hid hcf
            have HLD := Lib.hid (show labN (s.data.toList.drop (k + 1)) = if cnt labelB (s.data.toList.drop (k + 1)) = 0 ∨ 32 < cnt labelB (s.data.toList.drop (k + 1)) ∨ ((s.data.toList.drop (k + 1))[cnt labelB (s.data.toList.drop (k + 1))]?).map (·.toNat) ≠ some 34 then 0 else cnt labelB (s.data.toList.drop (k + 1)) + 2 from rfl)
            clear hca hcf hod hbz hbl hbl' hle hdi hdi' hle' hqu hq htk hbyte hkl hm hb0
            go_wp2_with fail
            with_reducible refine (HA.out wr).mono ?_
            rintro e w' ⟨rfl, rfl⟩
            go_wp2_with fail
            with_reducible refine (HF.out wr).mono ?_
            rintro e w' ⟨rfl, rfl⟩
            go_wp2_with fail
            go_loop [8] (fun i => ∃ m : Nat, k + 1 ≤ m ∧ m ≤ s.size ∧ Hid (m - (k + 1) ≤ cnt labelB (s.data.toList.drop (k + 1))) ∧ i = .int .i64 m) (fun i => s.size - (intOf i).toNat)
            case atStart => exact ⟨k + 1, Nat.le_refl _, by omega, Lib.hid (by omega), by go_num⟩
            case round =>
              obtain ⟨m, hkm, hms, HM, rfl⟩ := hrel
              by_cases hmlt : m < s.size
              · have hml : m < s.data.toList.length := by rw [HZ.out]; exact hmlt
                have hat := cntd_at (p := labelB) hml hkm HM.out
                have hst := cntd_stop (p := labelB) hml hkm HM.out
                have hby : s.data.toList[m] = s[m]'hmlt := rfl
                rw [hby] at hat hst
                obtain ⟨d, hd⟩ : ∃ d : Int, d = (s[m]'hmlt).toNat := ⟨_, rfl⟩
                have hlb : labelB (s[m]'hmlt) = true ↔ (d ≠ 34 ∧ 32 ≤ d ∧ d ≤ 126) := by
                  simp only [labelB, Bool.and_eq_true, decide_eq_true_eq, bne_iff_ne]; omega
                by_cases hp : labelB (s[m]'hmlt) = true
                · have HAT := Lib.hid (hat hp)
                  obtain ⟨p1, p2, p3⟩ := hlb.1 hp
                  have q1 : (((s[m]'hmlt).toNat : Int) != 34) = true := by rw [← hd, bne_iff_ne]; exact p1
                  have q2 : (32 : Int) ≤ (s[m]'hmlt).toNat := by omega
                  have q3 : ((s[m]'hmlt).toNat : Int) ≤ 126 := by omega
                  clear hat hst hby hml hlb hp hd p1 p2 p3
                  go_wp2_with fail
                  go_round
                  case rel => exact ⟨m + 1, by omega, by omega, HAT, by go_num⟩
                  case measure => simp [intOf]; omega
                · have hme := hst (by simpa using hp)
                  have HME := Lib.hid hme
                  have hcm : cnt labelB (s.data.toList.drop (k + 1)) = m - (k + 1) := by omega
                  have hg : (s.data.toList.drop (k + 1))[cnt labelB (s.data.toList.drop (k + 1))]? = some (s[m]'hmlt) := by
                    rw [List.getElem?_drop, ← hme, List.getElem?_eq_getElem hml]; rfl
                  have hld := HLD.out
                  rw [hg, hcm] at hld
                  by_cases d34 : d = 34
                  · have q1 : (((s[m]'hmlt).toNat : Int) != 34) = false := by rw [← hd, d34]; rfl
                    have hd34 : (s[m]'hmlt).toNat = 34 := by omega
                    by_cases hlen : m - (k + 1) = 0 ∨ 32 < m - (k + 1)
                    · have HER := Lib.hid (HOD.out.2 (by rw [hld, if_pos (by rcases hlen with h | h; exact .inl h; exact .inr (.inl h))]))
                      by_cases hl0 : m - (k + 1) = 0
                      · have g7 : decide ((m : Int) - k < 2) = true := by simp; omega
                        have g8 : decide (s.size ≤ m) = false := by simp; omega
                        clear hat hst hby hml hlb hp hd d34 hd34 hlen hl0 hld hg hcm hme
                        go_wp2
                        go_ret3
                        exact .inr ⟨20, k, HER.out, rfl, by decide, HBW.out⟩
                      · have g7 : decide ((m : Int) - k < 2) = false := by simp; omega
                        have g8 : decide (s.size ≤ m) = false := by simp; omega
                        have g9 : decide (33 < (m : Int) - k) = true := by simp; omega
                        clear hat hst hby hml hlb hp hd d34 hd34 hlen hl0 hld hg hcm hme
                        go_wp2
                        go_ret3
                        exact .inr ⟨20, k, HER.out, rfl, by decide, HBW.out⟩
                    · have hln : labN (s.data.toList.drop (k + 1)) = m - (k + 1) + 2 := by
                        rw [hld, if_neg]
                        rintro (h | h | h)
                        · exact hlen (.inl h)
                        · exact hlen (.inr h)
                        · exact h (by rw [Option.map_some, hd34])
                      have HLN := Lib.hid hln
                      have HON := Lib.hid (HOD.out.1 (by omega))
                      have g7 : decide ((m : Int) - k < 2) = false := by simp; omega
                      have g8 : decide (s.size ≤ m) = false := by simp; omega
                      have g9 : decide (33 < (m : Int) - k) = false := by simp; omega
                      clear hat hst hby hml hlb hp hd d34 hd34 hlen hld hg hcm hme hln
                      have hz2 : w.heap.size ≤ wr.heap.size := HBW.out.size
                      go_wp2_with (at_builtin; refine wpList_append_own _ rfl _ _ 66 rfl w.heap.size 70 i0 (.agg #[.int .i64 0, .string ⟨#[]⟩, .int .i64 0]) 3 32 Tryz.underlying66 HI.out HZ0.out HZ1.out HZ2.out rfl (by decide) _ _ _ rfl (HOW.out.alloc _) ⟨wr.heap.size, 0, none⟩ 1 1 [.int .i64 3, .string (s.extract (k + 1) m), .int .i64 k] rfl rfl (three_src _ _ _ _ _) (one_src _ _ _) (by unfold maxLen; omega) (by omega) (by simp; omega) ?_)
                      intro v3 w3 hown3 hgrow3 _
                      have HB3 := Lib.hid ((HBW.out.alloc hz2 _).grown hgrow3 (by simp; omega) (fun g hg => owns_lt HOW.out g hg))
                      have HO3 := Lib.hid hown3
                      clear hown3 hgrow3
                      go_wp2_with fail
                      go_roundw
                      case rel =>
                        have e := HME.out
                        have e2 := HLN.out
                        have e3 : ((m : Int) + 1) = ((k + labN (s.data.toList.drop (k + 1)) : Nat) : Int) := by omega
                        rw [e3]
                        refine ref_rel HON.out (by omega) (by rw [HZ.out]; omega) hacc ?_ HO3.out HB3.out
                        rw [ext_list]
                        unfold bareL
                        rw [if_pos rfl, List.drop_take, List.take_take, List.drop_drop, List.length_take, List.length_drop, HZ.out]
                        congr 1
                        omega
                      case measure => simp [intOf]; omega
                  · have HER := Lib.hid (HOD.out.2 (by rw [hld, if_pos (.inr (.inr (by rw [Option.map_some]; intro h; injection h with h; omega)))]))
                    have q1 : (((s[m]'hmlt).toNat : Int) != 34) = true := by rw [← hd, bne_iff_ne]; exact d34
                    have g8 : decide (s.size ≤ m) = false := by simp; omega
                    by_cases d32 : 32 ≤ d
                    · have q2 : (32 : Int) ≤ (s[m]'hmlt).toNat := by omega
                      have q3 : decide (((s[m]'hmlt).toNat : Int) ≤ 126) = false := by
                        rw [decide_eq_false_iff_not]; intro h; exact hp (hlb.2 ⟨d34, d32, by omega⟩)
                      clear hat hst hby hml hlb hp hd d34 d32 hld hg hcm hme
                      go_wp2
                      go_ret3
                      exact .inr ⟨20, k, HER.out, rfl, by decide, HBW.out⟩
                    · have q2 : decide ((32 : Int) ≤ (s[m]'hmlt).toNat) = false := by rw [decide_eq_false_iff_not]; omega
                      clear hat hst hby hml hlb hp hd d34 d32 hld hg hcm hme
                      go_wp2
                      go_ret3
                      exact .inr ⟨20, k, HER.out, rfl, by decide, HBW.out⟩
              · have hme := cntd_end (p := labelB) (l := s.data.toList) (k := k + 1) (m := m) (by rw [HZ.out]; omega) hkm (by rw [HZ.out]; omega) HM.out
                have HER := Lib.hid (HOD.out.2 (by
                  rw [HLD.out, if_pos]
                  refine .inr (.inr ?_)
                  rw [List.getElem?_eq_none (by rw [List.length_drop, HZ.out]; omega)]
                  simp))
                have g : decide (m < s.size) = false := by simpa using hmlt
                have g8 : decide (s.size ≤ m) = true := by simp; omega
                clear hme
                go_wp2
                go_ret3
                exact .inr ⟨20, k, HER.out, rfl, by decide, HBW.out⟩
        · as_aux_lemma =>
            have hqu' : quoteB (s[k]'hlt) = false := by simpa using hqu
            have hdi' : digitB (s[k]'hlt) = false := by simpa using hdi
            have hle' : letterB (s[k]'hlt) = false := by simpa using hle
            have hm := meas_sign hkl hdi' hle' hqu'
            have hod : blanks false (s.data.toList.drop k) = 0 → (signN (s.data.toList.drop k) ≠ 0 → toks s.data.toList = onto (acc ++ [⟨4, (s.data.toList.drop k).take (signN (s.data.toList.drop k)), k⟩]) (scanG s.data.toList (k + signN (s.data.toList.drop k)))) ∧
                (signN (s.data.toList.drop k) = 0 → toks s.data.toList = .error (20, k)) := by
              intro hb0
              refine ⟨fun h => ?_, fun h => ?_⟩
              · rw [if_neg h] at hm; exact ref_on hkl hb0 htk hm
              · rw [if_pos h] at hm; exact ref_er hkl hb0 htk hm (by decide)
            have g6 : (((s[k]'hlt).toNat : Int) == 34) = false := ne_nat (fun h => by simp [quoteB, h] at hqu')
            rw [hle'] at hca
            rw [hdi'] at hcf
            have HA := Lib.hid hca
            have HF := Lib.hid hcf
            have hsg := rsign_any s k wr hs hlt
            unfold SignP at hsg
            have HSG := Lib.hid hsg
            have HSL := Lib.hid (signN_le (s.data.toList.drop k))
            by_cases h47 : (s[k]'hlt).toNat = 47
            · have g5 : (((s[k]'hlt).toNat : Int) == 47) = true := by rw [h47]; rfl
              have hs0 : signN (s.data.toList.drop k) = 0 := by
                rw [drop_cons _ k hkl]
                have h1 : oneB s.data.toList[k] = false := by rw [hbyte]; simp [oneB, h47]
                have h2 : twoB (s.data.toList[k] :: s.data.toList.drop (k + 1)) = false := by
                  cases hr : s.data.toList.drop (k + 1) with
                  | nil => rfl
                  | cons b r => simp only [twoB]; rw [hbyte, h47]; rfl
                simp only [signN]
                rw [h2, h1]
                rfl
              by_cases hend : k + 1 < s.size
              · have gE : ((k : Int) + 1 < s.size) := by omega
                have hkl1 : k + 1 < s.data.toList.length := by rw [HZ.out]; exact hend
                have hby1 : s.data.toList[k + 1] = s[k + 1]'hend := rfl
                by_cases hsec : (s[k + 1]'hend).toNat = 47
                · have g7 : (((s[k + 1]'hend).toNat : Int) == 47) = true := by rw [hsec]; rfl
                  have HT := Lib.hid (ref_line hkl1 (by rw [hbyte]; exact h47) (by rw [hby1]; exact hsec) htk)
                  have hcl := cnt_le commB (s.data.toList.drop k)
                  rw [List.length_drop, HZ.out] at hcl
                  have hnp : 0 < cnt commB (s.data.toList.drop k) := by rw [drop_cons _ k hkl, cnt_cons_pos _ (by rw [hbyte]; simp [commB, h47])]; omega
                  clear hca hcf hod hbz hbl hbl' hle hle' hdi hdi' hqu hqu' htk hbyte hkl hm hsg HSG HSL HA HF hs0 h47 hsec hby1 hkl1
                  go_wp2_with fail
                  go_loop [6] (fun i => ∃ m : Nat, k ≤ m ∧ m ≤ s.size ∧ Hid (m - k ≤ cnt commB (s.data.toList.drop k)) ∧ i = .int .i64 m) (fun i => s.size - (intOf i).toNat)
                  case atStart => exact ⟨k, Nat.le_refl _, by omega, Lib.hid (by omega), rfl⟩
                  case round =>
                    obtain ⟨m, hkm, hms, HM, rfl⟩ := hrel
                    by_cases hmlt : m < s.size
                    · have hml : m < s.data.toList.length := by rw [HZ.out]; exact hmlt
                      have hat := cntd_at (p := commB) hml hkm HM.out
                      have hst := cntd_stop (p := commB) hml hkm HM.out
                      have hby : s.data.toList[m] = s[m]'hmlt := rfl
                      rw [hby] at hat hst
                      by_cases hp : (s[m]'hmlt).toNat = 10
                      · have HME := Lib.hid (hst (by simp [commB, hp]))
                        have q1 : (((s[m]'hmlt).toNat : Int) != 10) = false := by rw [hp]; rfl
                        clear hat hst hby hp hml
                        go_wp2_with fail
                        go_roundw
                        case rel =>
                          have e := HME.out
                          exact ⟨acc, m, rfl, by rw [HZ.out]; omega, by rw [HT.out, e], by omega, HOW.out, HBW.out⟩
                        case measure => have e := HME.out; simp [intOf]; omega
                      · have HAT := Lib.hid (hat (by simp [commB, hp]))
                        have q1 : (((s[m]'hmlt).toNat : Int) != 10) = true := by rw [bne_iff_ne]; omega
                        clear hat hst hby hp hml
                        go_wp2_with fail
                        go_round
                        case rel => exact ⟨m + 1, by omega, by omega, HAT, by go_num⟩
                        case measure => simp [intOf]; omega
                    · have HME := Lib.hid (cntd_end (p := commB) (l := s.data.toList) (k := k) (m := m) (by rw [HZ.out]; omega) hkm (by rw [HZ.out]; omega) HM.out)
                      have g : decide (m < s.size) = false := by simpa using hmlt
                      go_wp2_with fail
                      go_roundw
                      case rel =>
                        have e := HME.out
                        exact ⟨acc, m, rfl, by rw [HZ.out]; omega, by rw [HT.out, e], by omega, HOW.out, HBW.out⟩
                      case measure => have e := HME.out; simp [intOf]; omega
                · have g7 : (((s[k + 1]'hend).toNat : Int) == 47) = false := ne_nat hsec
                  have hb0 : blanks false (s.data.toList.drop k) = 0 := blanks_none hkl hbl' (fun hx => hsec (by rw [← hby1]; exact hx.2.2))
                  have HER := Lib.hid ((hod hb0).2 hs0)
                  have HE0 := Lib.hid (show (⟨((s.data.toList.drop k).take (signN (s.data.toList.drop k))).toArray⟩ : ByteArray) = ⟨#[]⟩ by rw [hs0]; rfl)
                  clear hca hcf hod hbz hbl hbl' hle hle' hdi hdi' hqu hqu' htk hbyte hkl hm hsg hs0 h47 hsec hby1 hkl1 hb0
                  go_wp2_with fail
                  with_reducible refine (HA.out wr).mono ?_
                  rintro e w' ⟨rfl, rfl⟩
                  go_wp2_with fail
                  with_reducible refine (HF.out wr).mono ?_
                  rintro e w' ⟨rfl, rfl⟩
                  go_wp2_with fail
                  with_reducible refine (HSG.out).mono ?_
                  rintro e w2 ⟨rfl, hb2⟩
                  have HB2 := Lib.hid (HBW.out.trans (hb2.mono HBW.out.size))
                  have HO2 := Lib.hid (owns_below HOW.out hb2)
                  clear hb2
                  rw [HE0.out]
                  go_wp2
                  go_ret3
                  exact .inr ⟨20, k, HER.out, rfl, by decide, HB2.out⟩
              · have gE : decide ((k : Int) + 1 < s.size) = false := by simp; omega
                have hb0 : blanks false (s.data.toList.drop k) = 0 := blanks_none hkl hbl' (fun hx => by have := hx.2.1; rw [HZ.out] at this; omega)
                have HER := Lib.hid ((hod hb0).2 hs0)
                have HE0 := Lib.hid (show (⟨((s.data.toList.drop k).take (signN (s.data.toList.drop k))).toArray⟩ : ByteArray) = ⟨#[]⟩ by rw [hs0]; rfl)
                clear hca hcf hod hbz hbl hbl' hle hle' hdi hdi' hqu hqu' htk hbyte hkl hm hsg hs0 h47 hb0
                go_wp2_with fail
                with_reducible refine (HA.out wr).mono ?_
                rintro e w' ⟨rfl, rfl⟩
                go_wp2_with fail
                with_reducible refine (HF.out wr).mono ?_
                rintro e w' ⟨rfl, rfl⟩
                go_wp2_with fail
                with_reducible refine (HSG.out).mono ?_
                rintro e w2 ⟨rfl, hb2⟩
                have HB2 := Lib.hid (HBW.out.trans (hb2.mono HBW.out.size))
                have HO2 := Lib.hid (owns_below HOW.out hb2)
                clear hb2
                rw [HE0.out]
                go_wp2
                go_ret3
                exact .inr ⟨20, k, HER.out, rfl, by decide, HB2.out⟩
            · have g5 : (((s[k]'hlt).toNat : Int) == 47) = false := ne_nat h47
              have hod := hod (hbz h47)
              by_cases hs0 : signN (s.data.toList.drop k) = 0
              · have HER := Lib.hid (hod.2 hs0)
                have HE0 := Lib.hid (show (⟨((s.data.toList.drop k).take (signN (s.data.toList.drop k))).toArray⟩ : ByteArray) = ⟨#[]⟩ by rw [hs0]; rfl)
                clear hca hcf hod hbz hbl hbl' hle hle' hdi hdi' hqu hqu' htk hbyte hkl hm hsg hs0 h47
                go_wp2_with fail
                with_reducible refine (HA.out wr).mono ?_
                rintro e w' ⟨rfl, rfl⟩
                go_wp2_with fail
                with_reducible refine (HF.out wr).mono ?_
                rintro e w' ⟨rfl, rfl⟩
                go_wp2_with fail
                with_reducible refine (HSG.out).mono ?_
                rintro e w2 ⟨rfl, hb2⟩
                have HB2 := Lib.hid (HBW.out.trans (hb2.mono HBW.out.size))
                have HO2 := Lib.hid (owns_below HOW.out hb2)
                clear hb2
                rw [HE0.out]
                go_wp2
                go_ret3
                exact .inr ⟨20, k, HER.out, rfl, by decide, HB2.out⟩
              · have HON := Lib.hid (hod.1 hs0)
                have HNP := Lib.hid (show 0 < signN (s.data.toList.drop k) by omega)
                clear hca hcf hod hbz hbl hbl' hle hle' hdi hdi' hqu hqu' htk hbyte hkl hm hsg hs0 h47
                go_wp2_with fail
                with_reducible refine (HA.out wr).mono ?_
                rintro e w' ⟨rfl, rfl⟩
                go_wp2_with fail
                with_reducible refine (HF.out wr).mono ?_
                rintro e w' ⟨rfl, rfl⟩
                go_wp2_with fail
                with_reducible refine (HSG.out).mono ?_
                rintro e w2 ⟨rfl, hb2⟩
                have HB2 := Lib.hid (HBW.out.trans (hb2.mono HBW.out.size))
                have HO2 := Lib.hid (owns_below HOW.out hb2)
                clear hb2
                generalize hxx : (⟨((s.data.toList.drop k).take (signN (s.data.toList.drop k))).toArray⟩ : ByteArray) = x
                have hxs : x.size = signN (s.data.toList.drop k) := by
                  have hl := HSL.out
                  rw [← hxx]
                  show (List.toArray _).size = _
                  rw [List.size_toArray, List.length_take]
                  omega
                have HXX := Lib.hid (show x.data.toList = (s.data.toList.drop k).take (signN (s.data.toList.drop k)) by rw [← hxx])
                have HXS := Lib.hid hxs
                have hx2 : x.size ≤ s.size := by rw [hxs]; have := HSL.out; rw [List.length_drop, HZ.out] at this; omega
                have hxe : (!x.toList.isEmpty) = true := by
                  have h1 : x.toList.length = x.size := by rw [ByteArray.toList_eq]; simp
                  have h2 := HNP.out
                  cases hl : x.toList with
                  | nil => rw [hl] at h1; simp at h1; omega
                  | cons a b => rfl
                have hxe2 : x.toList.isEmpty = false := by simpa using hxe
                clear hxx hxs
                have hz2 : w.heap.size ≤ w2.heap.size := HB2.out.size
                go_wp2_with (at_builtin; refine wpList_append_own _ rfl _ _ 66 rfl w.heap.size 70 i0 (.agg #[.int .i64 0, .string ⟨#[]⟩, .int .i64 0]) 3 32 Tryz.underlying66 HI.out HZ0.out HZ1.out HZ2.out rfl (by decide) _ _ _ rfl (HO2.out.alloc _) ⟨w2.heap.size, 0, none⟩ 1 1 [.int .i64 4, .string (x), .int .i64 k] rfl rfl (three_src _ _ _ _ _) (one_src _ _ _) (by unfold maxLen; omega) (by omega) (by simp; omega) ?_)
                intro v3 w3 hown3 hgrow3 _
                have HB3 := Lib.hid ((HB2.out.alloc hz2 _).grown hgrow3 (by simp; omega) (fun g hg => owns_lt HO2.out g hg))
                have HO3 := Lib.hid hown3
                clear hown3 hgrow3
                go_wp2_with fail
                go_roundw
                case rel =>
                  have e := HXS.out
                  have e3 : ((k : Int) + (x.size : Int)) = ((k + signN (s.data.toList.drop k) : Nat) : Int) := by omega
                  rw [e3]
                  have := HSL.out
                  rw [List.length_drop, HZ.out] at this
                  exact ref_rel HON.out HNP.out (by rw [HZ.out]; omega) hacc HXX.out HO3.out HB3.out
                case measure => have e := HXS.out; have := HNP.out; have h2 := HSL.out; rw [List.length_drop, HZ.out] at h2; simp [intOf]; omega
    · have hkl : k = s.data.toList.length := by rw [HZ.out]; omega
      have g : decide (k < s.size) = false := by simpa using hlt
      have HEND := Lib.hid (tok_end (l := s.data.toList) (acc := acc) (by rw [← hkl]; exact htk))
      clear htk hkl
      have hz2 : w.heap.size ≤ wr.heap.size := HBW.out.size
      go_wp2_with (at_builtin; refine wpList_append_own _ rfl _ _ 66 rfl w.heap.size 70 i0 (.agg #[.int .i64 0, .string ⟨#[]⟩, .int .i64 0]) 3 32 Tryz.underlying66 HI.out HZ0.out HZ1.out HZ2.out rfl (by decide) _ _ _ rfl (HOW.out.alloc _) ⟨wr.heap.size, 0, none⟩ 1 1 [.int .i64 0, .string (⟨#[]⟩), .int .i64 s.size] rfl rfl (three_src _ _ _ _ _) (one_src _ _ _) (by unfold maxLen; omega) (by omega) (by simp; omega) ?_)
      intro v3 w3 hown3 hgrow3 _
      have HB3 := Lib.hid ((HBW.out.alloc hz2 _).grown hgrow3 (by simp; omega) (fun g hg => owns_lt HOW.out g hg))
      have HO3 := Lib.hid hown3
      clear hown3 hgrow3
      go_wp2
      go_ret3
      refine .inl ⟨acc ++ [⟨0, [], s.data.toList.length⟩], v3, HEND.out, rfl, by simp, by simp; omega, ?_, HB3.out⟩
      rw [cellsT_snoc, List.length_append, HZ.out]
      exact HO3.out
end Go.Proofs.YtjhicgllofjpoaaGreatDoor
