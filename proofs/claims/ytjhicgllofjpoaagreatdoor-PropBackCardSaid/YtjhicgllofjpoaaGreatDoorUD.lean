/-
  PropBack, walked: the questions' part. PropBack, walked: both parts; all ways.
-/
import Derived.Test.YtjhicgllofjpoaaGreatDoorUC
namespace Go.Proofs.YtjhicgllofjpoaaGreatDoor
section
open Go.RowKit Go.Sort

set_option maxHeartbeats 8000000 in
set_option maxRecDepth 100000 in
theorem back_eo (s : ByteArray) (D : Nat) (w : World) (hG : GlobS w) (hs : s.size ≤ 3000) (h1 : 1 ≤ D) (h64 : D ≤ 64) {c p : Nat} (hp : parseF D s.data.toList = .er c p) {L : List Qr} (hq : parseQs D s.data.toList = .ok L) : Calls Tryz.prog 5 #[.string s, .int .i64 (D : Int)] w (LawF w) := by
  have H0 := Lib.hid (palive_yes w hG)
  have g1 : decide (3000 < (s.size : Int)) = false := by simp; omega
  have HG := Lib.hid hG
  have H2 := Lib.hid (fun (W : World) (hW : GlobS W) => pparse_any (s := s) (D := D) W hW (by omega) h1 h64)
  rw [hp] at H2
  have hsl' : s.data.toList.length = s.size := by simp
  have hqs := parse_qs (by omega) hq
  obtain ⟨M, hpm, hsm⟩ := parse_tolds (D := D) hqs.1
  have htl : (L.flatMap Qr.told).length ≤ 15000 := by have := hqs.2; omega
  have H5 := Lib.hid (fun (W : World) (hW : GlobS W) => pqueries_any (s := s) (D := D) W hW (by omega) h1 h64)
  rw [hq] at H5
  obtain ⟨Z, hZ⟩ : ∃ Z : ByteArray, Z = ⟨(L.flatMap Qr.told).toArray⟩ := ⟨_, rfl⟩
  have hZL : Z.data.toList = L.flatMap Qr.told := by rw [hZ]
  have H6 := Lib.hid (fun (W : World) (hW : GlobS W) => pqueries_any (s := Z) (D := D) W hW (by rw [← size_listF, hZL]; omega) h1 h64)
  rw [hZL, hpm] at H6
  have hml := hsm.len
  have HQ := Lib.hid hqs.1
  have HSM := Lib.hid hsm
  have HTL := Lib.hid htl
  have HZ := Lib.hid hZ
  have HML := Lib.hid hml
  have hLn : L.length ≤ 15000 := by
    have : L.length ≤ (L.flatMap Qr.told).length := told_many (D - 1) L hqs.1
    omega
  have HLN := Lib.hid hLn
  clear hq hqs hpm hsm htl hZ hZL hml hsl' hLn
  clear hG hs h1 h64 hp
  go_enter Tryz.func5, Tryz.ntmps5
  go_wp2_with fail
  with_reducible refine (H0.out).mono ?_
  rintro e w1 ⟨rfl, hb1⟩
  have HB1 := Lib.hid hb1
  clear hb1
  go_wp2_with fail
  refine (H2.out _ (HG.out.below HB1.out)).mono ?_
  rintro e w2 ⟨b2, rfl, hA2, hb2⟩
  have HBz := Lib.hid ((HB1.out.trans (hb2.mono HB1.out.size)).alloc (HB1.out.trans (hb2.mono HB1.out.size)).size (.cells #[.string ⟨#[]⟩, .string ⟨#[]⟩, .slice none 0 0, .int .i64 0] 25))
  clear hb2 hA2
  go_wp2_with fail
  refine (H5.out _ (HG.out.below HBz.out)).mono ?_
  rintro e w5 ⟨A, cap, rfl, hR5, hb5⟩
  have HB5 := Lib.hid (HBz.out.trans (hb5.mono HBz.out.size))
  have HK5 := Lib.hid hR5.qk
  clear hb5 hR5
  obtain ⟨n, hn⟩ : ∃ n, n = L.length := ⟨_, rfl⟩
  have HN := Lib.hid hn
  have hn15 : n ≤ 15000 := by rw [hn]; exact HLN.out
  rw [← hn]
  clear hn
  go_wp2
  go_loopw [12, 13] (fun t i wr => BkRel L A w t i wr) (fun _ i _ => n - (intOf i).toNat)
  case atStart => exact ⟨0, _, rfl, rfl, rfl, Nat.zero_le _, HB5.out, HK5.out⟩
  case round =>
    obtain ⟨k, T', rfl, rfl, hT', hk, hb, hK⟩ := hrel
    by_cases hlt : k < n
    · have g2 : decide ((k : Int) < (n : Int)) = true := by simp; omega
      have k1 : k < L.length := by rw [← HN.out]; exact hlt
      obtain ⟨g, ⟨o, nm, P, l, cp, p⟩, hA1, hg, c0, c1, c2, c3, c4, c5, hF⟩ := hK k k1
      subst hA1
      obtain ⟨f, hf, hok, hol, hnd, hkd⟩ := HQ.out _ (List.getElem_mem k1)
      rw [hf] at hF
      have hle := told_le k1 hf
      have hfo := tlq_fo L[k].kind f
      have hT2 := HTL.out
      have HA := Lib.hid (fun (W : World) (hW : Below wr.heap.size wr W) (q : Int) => pask_any (k := ⟨L[k].kind.toArray⟩) (q := q) hok W ((show FS wr 25 _ f (FV.c ⟨o, nm, P, l, cp, p⟩) from hF).below hW) (by omega) (by show L[k].kind.toArray.size ≤ 100; have := kdq_len hkd; simp; omega))
      obtain ⟨a, ha⟩ : ∃ a : ByteArray, a = ⟨(tlQ L[k].kind f).toArray⟩ := ⟨_, rfl⟩
      have hsa : a.size ≤ 15000 := by rw [ha]; show (tlQ L[k].kind f).toArray.size ≤ _; simp; omega
      have hsT : T'.size ≤ 15000 := by rw [hT']; show (tolds L k).toArray.size ≤ _; simp; omega
      have n1 : ¬ 9223372036854775807 < T'.size + a.size := by omega
      have n2 : ¬ 9223372036854775807 < T'.size + a.size + 2 := by omega
      have HMO := Lib.hid (show T' ++ a ++ (⟨#[59, 10]⟩ : ByteArray) = ⟨(tolds L (k + 1)).toArray⟩ by rw [tolds_more k1 hf]; exact text_more hT' ha)
      have HA' := Lib.hid (fun (W : World) (hW : Below wr.heap.size wr W) (q : Int) => ((HA.out W hW q).mono fun e w' (h : AskP _ f W e w') => (⟨by rw [ha]; exact h.1, h.2⟩ : e = .returned (.string a) ∧ Below W.heap.size W w')))
      have HBb := Lib.hid hb
      have HKb := Lib.hid hK
      clear hb hK hF hf hok hol hnd hkd hle hfo hT2 HA ha hT' hk
      go_wp2_with fail
      refine (HA'.out _ (by first | exact Below.refl _ _ | exact (Below.refl _ _).alloc (Nat.le_refl _) _) _).mono ?_
      rintro e w6 ⟨rfl, hb6⟩
      have HB6 := Lib.hid (HBb.out.trans (hb6.mono HBb.out.size))
      have HK6 := Lib.hid (HKb.out.below hb6)
      clear hb6
      go_wp2
      go_roundw
      case rel => exact ⟨k + 1, _, by go_num, rfl, HMO.out, by omega, HB6.out, HK6.out⟩
      case measure => simp [intOf]; omega
    · have g2 : decide ((k : Int) < (n : Int)) = false := by simp; omega
      have hkn : k = n := by have := HN.out; omega
      have hTZ : T' = Z := by rw [hT', HZ.out, tolds_all (by rw [← HN.out]; omega)]
      subst hTZ
      have HBb := Lib.hid hb
      have HKb := Lib.hid hK
      clear hb hK hT' hk hkn
      go_wp2_with fail
      refine (H6.out _ (HG.out.below HBb.out)).mono ?_
      rintro e w6 ⟨B, cap6, rfl, hR6, hb6⟩
      have HB6 := Lib.hid (HBb.out.trans (hb6.mono HBb.out.size))
      have HK6 := Lib.hid (HKb.out.below hb6)
      have HM6 := Lib.hid hR6.qk
      clear hb6 hR6
      have hMn : M.length = n := by rw [← HML.out, ← HN.out]
      rw [hMn]
      have HMN := Lib.hid hMn
      clear hMn
      have g3 : ((n : Int) != (n : Int)) = false := by simp
      go_wp2
      go_loopw [16] (fun i wr => CkRel L M A B w i wr) (fun i _ => n - (intOf i).toNat)
      case atStart => exact ⟨0, rfl, Nat.zero_le _, HB6.out, HK6.out, HM6.out⟩
      case round =>
        obtain ⟨k, rfl, hk, hb, hK, hM⟩ := hrel
        by_cases hlt : k < n
        · have g2 : decide ((k : Int) < (n : Int)) = true := by simp; omega
          have k1 : k < L.length := by rw [← HN.out]; exact hlt
          have k2 : k < M.length := by rw [HMN.out]; exact hlt
          obtain ⟨hkd, f, h, hf, hh, hbare⟩ := HSM.out.get k k1 k2
          obtain ⟨a, va, hA1, hla, c0, c1, c2, c3, c4, c5, hFa⟩ := hK k k1
          obtain ⟨b, vb, hB1, hlb, d0, d1, d2, d3, d4, d5, hFb⟩ := hM k k2
          subst hA1 hB1
          rw [hf] at hFa
          rw [hh] at hFb
          rw [← hkd] at d0
          have LK := Lib.hid (show MemC w wr (some ⟨a, 0, none⟩) (some ⟨b, 0, none⟩) L M a b k va vb ⟨L[k].kind.toArray⟩ f h from ⟨hK, hM, hb, hla, hlb, c0, d0, ⟨hla, c1, c2, c3, c4, hFa⟩, ⟨hlb, d1, d2, d3, d4, hFb⟩, hbare⟩)
          clear hK hM hb hla hlb c0 c1 c2 c3 c4 c5 d0 d1 d2 d3 d4 d5 hFa hFb hbare hf hh hkd hk
          generalize (⟨L[k].kind.toArray⟩ : ByteArray) = kd at LK
          have g5 : (kd.toList == kd.toList) = true := by simp
          have lk := LK.out.drew
          clear LK
          go_wp2_with fail
          go_region_held3 (fun w' => w'.cell? ⟨a, k * 6, none⟩ = some (.string kd) ∧ w'.cell? ⟨b, k * 6, none⟩ = some (.string kd) ∧ w'.cell? ⟨a, k * 6 + 1, none⟩ = some (.string va.o) ∧ w'.cell? ⟨a, k * 6 + 1 + 1, none⟩ = some (.string va.nm) ∧ w'.cell? ⟨a, k * 6 + 1 + 2, none⟩ = some (.slice va.A va.ll va.cap) ∧ w'.cell? ⟨a, k * 6 + 1 + 3, none⟩ = some (.int .i64 va.p) ∧ w'.cell? ⟨b, k * 6 + 1, none⟩ = some (.string vb.o) ∧ w'.cell? ⟨b, k * 6 + 1 + 1, none⟩ = some (.string vb.nm) ∧ w'.cell? ⟨b, k * 6 + 1 + 2, none⟩ = some (.slice vb.A vb.ll vb.cap) ∧ w'.cell? ⟨b, k * 6 + 1 + 3, none⟩ = some (.int .i64 vb.p)) (exact lk.S) (first
            | (go_at_call 23; (with_reducible refine (lk.same).mono ?_); rintro e wA ⟨rfl, lk⟩))
          all_goals go_wp2
          all_goals go_roundw
          case rel => exact ⟨k + 1, by go_num, by omega, lk.bl, lk.k1, lk.k2⟩
          case measure => simp [intOf]; omega
        · have g2 : decide ((k : Int) < (n : Int)) = false := by simp; omega
          have HBb := Lib.hid hb
          clear hb hK hM hk
          go_wp2
          go_ret
          exact ⟨rfl, HBb.out⟩
end
section
open Go.RowKit Go.Sort

set_option maxHeartbeats 8000000 in
set_option maxRecDepth 100000 in
theorem back_oo (s : ByteArray) (D : Nat) (w : World) (hG : GlobS w) (hs : s.size ≤ 3000) (h1 : 1 ≤ D) (h64 : D ≤ 64) {f0 : Fo} (hp : parseF D s.data.toList = .ok f0) {L : List Qr} (hq : parseQs D s.data.toList = .ok L) : Calls Tryz.prog 5 #[.string s, .int .i64 (D : Int)] w (LawF w) := by
  have H0 := Lib.hid (palive_yes w hG)
  have g1 : decide (3000 < (s.size : Int)) = false := by simp; omega
  have HG := Lib.hid hG
  have hsl : s.data.toList.length = s.size := by simp
  have hgood := parse_okf (by omega) hp
  have hdeep := parse_deepF hp
  obtain ⟨x0, hpx, hbx⟩ := parse_tlF hgood.1 hdeep.1 hdeep.2.1
  have hgx := parse_okf (by omega) hpx
  have hsx := tlf_same hbx
  have hln : (tlF f0).length ≤ 15000 := by omega
  have H2 := Lib.hid (fun (W : World) (hW : GlobS W) => pparse_any (s := s) (D := D) W hW (by omega) h1 h64)
  rw [hp] at H2
  obtain ⟨T, hT⟩ : ∃ T : ByteArray, T = ⟨(tlF f0).toArray⟩ := ⟨_, rfl⟩
  have hTL : T.data.toList = tlF f0 := by rw [hT]
  have H4 := Lib.hid (fun (W : World) (hW : GlobS W) => pparse_any (s := T) (D := D) W hW (by rw [← size_listF, hTL]; omega) h1 h64)
  rw [hTL, hpx] at H4
  have HPR := Lib.hid (fun (W : World) (b : Nat) (v : FV) (S : Nat → Prop) (hE : At4 W b 0 v f0 S) => fprint_any hgood.1 W hE.fs (by omega))
  rw [← hT] at HPR
  have HX := Lib.hid (show f0.bare = x0.bare ∧ OkF x0 ∧ (tlF x0).length ≤ 1000000 ∧ tlF x0 = tlF f0 from ⟨hbx.symm, hgx.1, by rw [hsx]; omega, hsx⟩)
  have HT := Lib.hid hT
  clear hp hpx hbx hgx hsx hgood hdeep hln hTL hT
  have hsl' : s.data.toList.length = s.size := by simp
  have hqs := parse_qs (by omega) hq
  obtain ⟨M, hpm, hsm⟩ := parse_tolds (D := D) hqs.1
  have htl : (L.flatMap Qr.told).length ≤ 15000 := by have := hqs.2; omega
  have H5 := Lib.hid (fun (W : World) (hW : GlobS W) => pqueries_any (s := s) (D := D) W hW (by omega) h1 h64)
  rw [hq] at H5
  obtain ⟨Z, hZ⟩ : ∃ Z : ByteArray, Z = ⟨(L.flatMap Qr.told).toArray⟩ := ⟨_, rfl⟩
  have hZL : Z.data.toList = L.flatMap Qr.told := by rw [hZ]
  have H6 := Lib.hid (fun (W : World) (hW : GlobS W) => pqueries_any (s := Z) (D := D) W hW (by rw [← size_listF, hZL]; omega) h1 h64)
  rw [hZL, hpm] at H6
  have hml := hsm.len
  have HQ := Lib.hid hqs.1
  have HSM := Lib.hid hsm
  have HTL := Lib.hid htl
  have HZ := Lib.hid hZ
  have HML := Lib.hid hml
  have hLn : L.length ≤ 15000 := by
    have : L.length ≤ (L.flatMap Qr.told).length := told_many (D - 1) L hqs.1
    omega
  have HLN := Lib.hid hLn
  clear hq hqs hpm hsm htl hZ hZL hml hsl' hLn
  clear hG hs h1 h64
  go_enter Tryz.func5, Tryz.ntmps5
  go_wp2_with fail
  with_reducible refine (H0.out).mono ?_
  rintro e w1 ⟨rfl, hb1⟩
  have HB1 := Lib.hid hb1
  clear hb1
  go_wp2_with fail
  refine (H2.out _ (HG.out.below HB1.out)).mono ?_
  rintro e w3 ⟨v3, rfl, hC, hb3⟩
  have HB3 := Lib.hid (HB1.out.trans (hb3.mono HB1.out.size))
  have HC3 := Lib.hid (show FS w3 25 _ f0 v3.c from hC)
  clear hb3 hC
  go_wp2_with fail
  refine calls_gen (P := fun W => At4 W w3.heap.size 0 v3 f0 (fun j => j < w3.heap.size) ∧ Below w.heap.size w W) ⟨at4_new (HC3.out.wide (fun j _ hj => hj.2)), HB3.out.alloc HB3.out.size _⟩ ?_
  rintro W ⟨hE, hB⟩
  refine (HPR.out W _ _ _ hE).mono ?_
  rintro e w4 ⟨rfl, hb4⟩
  have HE4 := Lib.hid (hE.below hb4)
  have HB4 := Lib.hid (hB.trans (hb4.mono hB.size))
  clear hE hB hb4 HC3 HB3
  go_wp2_with fail
  refine (H4.out _ (HG.out.below HB4.out)).mono ?_
  rintro e w7 ⟨v7, rfl, hC, hb7⟩
  have HE7 := Lib.hid (HE4.out.below hb7)
  have HB7 := Lib.hid (HB4.out.trans (hb7.mono HB4.out.size))
  have HC7 := Lib.hid (show FS w7 25 _ x0 v7.c from hC)
  clear hb7 hC HE4 HB4
  have LK := Lib.hid (show MemB w (w7.alloc (.cells #[.string v7.o, .string v7.nm, .slice v7.A v7.ll v7.cap, .int .i64 v7.p] 25)) w3.heap.size w7.heap.size v3 v7 f0 x0 _ _ from ⟨HE7.out.alloc _, at4_new (HC7.out.wide (T := fun j => j < w7.heap.size) (fun j _ hj => hj.2)), HB7.out.alloc HB7.out.size _, HX.out.1, HX.out.2.1, HX.out.2.2.1, HX.out.2.2.2⟩)
  clear HE7 HB7 HC7
  obtain ⟨k1, k2, c0, c1, c2, c3, c4, c5, c6, c7⟩ := LK.out.c
  generalize hW : w7.alloc (.cells #[.string v7.o, .string v7.nm, .slice v7.A v7.ll v7.cap, .int .i64 v7.p] 25) = W at LK k1 k2 c0 c1 c2 c3 c4 c5 c6 c7
  have g5 : (T.toList == T.toList) = true := by simp
  have g6 : ((tlF f0) == T.toList) = true := by rw [HT.out, ByteArray.toList_eq]; simp
  go_wp2_with fail
  clear hW
  refine (LK.out.same1).mono ?_
  rintro e w8 ⟨rfl, lk⟩
  have LK := Lib.hid lk
  obtain ⟨k1, k2, c0, c1, c2, c3, c4, c5, c6, c7⟩ := lk.c
  clear lk
  go_wp2_with fail
  refine (LK.out.same2).mono ?_
  rintro e w9 ⟨rfl, lk⟩
  have LK := Lib.hid lk
  obtain ⟨k1, k2, c0, c1, c2, c3, c4, c5, c6, c7⟩ := lk.c
  clear lk
  go_wp2_with fail
  refine (LK.out.print).mono ?_
  rintro e w10 ⟨rfl, lk⟩
  have HBz := Lib.hid lk.b
  clear lk LK
  go_wp2_with fail
  refine (H5.out _ (HG.out.below HBz.out)).mono ?_
  rintro e w5 ⟨A, cap, rfl, hR5, hb5⟩
  have HB5 := Lib.hid (HBz.out.trans (hb5.mono HBz.out.size))
  have HK5 := Lib.hid hR5.qk
  clear hb5 hR5
  obtain ⟨n, hn⟩ : ∃ n, n = L.length := ⟨_, rfl⟩
  have HN := Lib.hid hn
  have hn15 : n ≤ 15000 := by rw [hn]; exact HLN.out
  rw [← hn]
  clear hn
  go_wp2
  go_loopw [12, 13] (fun t i wr => BkRel L A w t i wr) (fun _ i _ => n - (intOf i).toNat)
  case atStart => exact ⟨0, _, rfl, rfl, rfl, Nat.zero_le _, HB5.out, HK5.out⟩
  case round =>
    obtain ⟨k, T', rfl, rfl, hT', hk, hb, hK⟩ := hrel
    by_cases hlt : k < n
    · have g2 : decide ((k : Int) < (n : Int)) = true := by simp; omega
      have k1 : k < L.length := by rw [← HN.out]; exact hlt
      obtain ⟨g, ⟨o, nm, P, l, cp, p⟩, hA1, hg, c0, c1, c2, c3, c4, c5, hF⟩ := hK k k1
      subst hA1
      obtain ⟨f, hf, hok, hol, hnd, hkd⟩ := HQ.out _ (List.getElem_mem k1)
      rw [hf] at hF
      have hle := told_le k1 hf
      have hfo := tlq_fo L[k].kind f
      have hT2 := HTL.out
      have HA := Lib.hid (fun (W : World) (hW : Below wr.heap.size wr W) (q : Int) => pask_any (k := ⟨L[k].kind.toArray⟩) (q := q) hok W ((show FS wr 25 _ f (FV.c ⟨o, nm, P, l, cp, p⟩) from hF).below hW) (by omega) (by show L[k].kind.toArray.size ≤ 100; have := kdq_len hkd; simp; omega))
      obtain ⟨a, ha⟩ : ∃ a : ByteArray, a = ⟨(tlQ L[k].kind f).toArray⟩ := ⟨_, rfl⟩
      have hsa : a.size ≤ 15000 := by rw [ha]; show (tlQ L[k].kind f).toArray.size ≤ _; simp; omega
      have hsT : T'.size ≤ 15000 := by rw [hT']; show (tolds L k).toArray.size ≤ _; simp; omega
      have n1 : ¬ 9223372036854775807 < T'.size + a.size := by omega
      have n2 : ¬ 9223372036854775807 < T'.size + a.size + 2 := by omega
      have HMO := Lib.hid (show T' ++ a ++ (⟨#[59, 10]⟩ : ByteArray) = ⟨(tolds L (k + 1)).toArray⟩ by rw [tolds_more k1 hf]; exact text_more hT' ha)
      have HA' := Lib.hid (fun (W : World) (hW : Below wr.heap.size wr W) (q : Int) => ((HA.out W hW q).mono fun e w' (h : AskP _ f W e w') => (⟨by rw [ha]; exact h.1, h.2⟩ : e = .returned (.string a) ∧ Below W.heap.size W w')))
      have HBb := Lib.hid hb
      have HKb := Lib.hid hK
      clear hb hK hF hf hok hol hnd hkd hle hfo hT2 HA ha hT' hk
      go_wp2_with fail
      refine (HA'.out _ (by first | exact Below.refl _ _ | exact (Below.refl _ _).alloc (Nat.le_refl _) _) _).mono ?_
      rintro e w6 ⟨rfl, hb6⟩
      have HB6 := Lib.hid (HBb.out.trans (hb6.mono HBb.out.size))
      have HK6 := Lib.hid (HKb.out.below hb6)
      clear hb6
      go_wp2
      go_roundw
      case rel => exact ⟨k + 1, _, by go_num, rfl, HMO.out, by omega, HB6.out, HK6.out⟩
      case measure => simp [intOf]; omega
    · have g2 : decide ((k : Int) < (n : Int)) = false := by simp; omega
      have hkn : k = n := by have := HN.out; omega
      have hTZ : T' = Z := by rw [hT', HZ.out, tolds_all (by rw [← HN.out]; omega)]
      subst hTZ
      have HBb := Lib.hid hb
      have HKb := Lib.hid hK
      clear hb hK hT' hk hkn
      go_wp2_with fail
      refine (H6.out _ (HG.out.below HBb.out)).mono ?_
      rintro e w6 ⟨B, cap6, rfl, hR6, hb6⟩
      have HB6 := Lib.hid (HBb.out.trans (hb6.mono HBb.out.size))
      have HK6 := Lib.hid (HKb.out.below hb6)
      have HM6 := Lib.hid hR6.qk
      clear hb6 hR6
      have hMn : M.length = n := by rw [← HML.out, ← HN.out]
      rw [hMn]
      have HMN := Lib.hid hMn
      clear hMn
      have g3 : ((n : Int) != (n : Int)) = false := by simp
      go_wp2
      go_loopw [16] (fun i wr => CkRel L M A B w i wr) (fun i _ => n - (intOf i).toNat)
      case atStart => exact ⟨0, rfl, Nat.zero_le _, HB6.out, HK6.out, HM6.out⟩
      case round =>
        obtain ⟨k, rfl, hk, hb, hK, hM⟩ := hrel
        by_cases hlt : k < n
        · have g2 : decide ((k : Int) < (n : Int)) = true := by simp; omega
          have k1 : k < L.length := by rw [← HN.out]; exact hlt
          have k2 : k < M.length := by rw [HMN.out]; exact hlt
          obtain ⟨hkd, f, h, hf, hh, hbare⟩ := HSM.out.get k k1 k2
          obtain ⟨a, va, hA1, hla, c0, c1, c2, c3, c4, c5, hFa⟩ := hK k k1
          obtain ⟨b, vb, hB1, hlb, d0, d1, d2, d3, d4, d5, hFb⟩ := hM k k2
          subst hA1 hB1
          rw [hf] at hFa
          rw [hh] at hFb
          rw [← hkd] at d0
          have LK := Lib.hid (show MemC w wr (some ⟨a, 0, none⟩) (some ⟨b, 0, none⟩) L M a b k va vb ⟨L[k].kind.toArray⟩ f h from ⟨hK, hM, hb, hla, hlb, c0, d0, ⟨hla, c1, c2, c3, c4, hFa⟩, ⟨hlb, d1, d2, d3, d4, hFb⟩, hbare⟩)
          clear hK hM hb hla hlb c0 c1 c2 c3 c4 c5 d0 d1 d2 d3 d4 d5 hFa hFb hbare hf hh hkd hk
          generalize (⟨L[k].kind.toArray⟩ : ByteArray) = kd at LK
          have g5 : (kd.toList == kd.toList) = true := by simp
          have lk := LK.out.drew
          clear LK
          go_wp2_with fail
          go_region_held3 (fun w' => w'.cell? ⟨a, k * 6, none⟩ = some (.string kd) ∧ w'.cell? ⟨b, k * 6, none⟩ = some (.string kd) ∧ w'.cell? ⟨a, k * 6 + 1, none⟩ = some (.string va.o) ∧ w'.cell? ⟨a, k * 6 + 1 + 1, none⟩ = some (.string va.nm) ∧ w'.cell? ⟨a, k * 6 + 1 + 2, none⟩ = some (.slice va.A va.ll va.cap) ∧ w'.cell? ⟨a, k * 6 + 1 + 3, none⟩ = some (.int .i64 va.p) ∧ w'.cell? ⟨b, k * 6 + 1, none⟩ = some (.string vb.o) ∧ w'.cell? ⟨b, k * 6 + 1 + 1, none⟩ = some (.string vb.nm) ∧ w'.cell? ⟨b, k * 6 + 1 + 2, none⟩ = some (.slice vb.A vb.ll vb.cap) ∧ w'.cell? ⟨b, k * 6 + 1 + 3, none⟩ = some (.int .i64 vb.p)) (exact lk.S) (first
            | (go_at_call 23; (with_reducible refine (lk.same).mono ?_); rintro e wA ⟨rfl, lk⟩))
          all_goals go_wp2
          all_goals go_roundw
          case rel => exact ⟨k + 1, by go_num, by omega, lk.bl, lk.k1, lk.k2⟩
          case measure => simp [intOf]; omega
        · have g2 : decide ((k : Int) < (n : Int)) = false := by simp; omega
          have HBb := Lib.hid hb
          clear hb hK hM hk
          go_wp2
          go_ret
          exact ⟨rfl, HBb.out⟩
theorem pback_yes (s : ByteArray) (d : Int) (w : World) (hG : GlobS w) (hs : s.size ≤ 140737488355328) : Calls Tryz.prog 5 #[.string s, .int .i64 d] w (LawF w) := by
  by_cases h : 3000 < s.size
  · exact back_long s d w hG h
  · rcases bad_or d with hb | ⟨D, rfl, h1, h2⟩
    · exact back_arg s d w hG (by omega) hb
    · cases hp : parseF D s.data.toList with
      | er c p =>
        cases hq : parseQs D s.data.toList with
        | er c' p' => exact back_ee s D w hG (by omega) h1 h2 hp hq
        | ok L => exact back_eo s D w hG (by omega) h1 h2 hp hq
      | ok f =>
        cases hq : parseQs D s.data.toList with
        | er c' p' => exact back_oe s D w hG (by omega) h1 h2 hp hq
        | ok L => exact back_oo s D w hG (by omega) h1 h2 hp hq
end
end Go.Proofs.YtjhicgllofjpoaaGreatDoor
