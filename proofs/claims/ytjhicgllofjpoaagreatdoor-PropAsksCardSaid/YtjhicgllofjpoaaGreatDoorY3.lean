/-
  PropAsks, walked.
-/
import Derived.Test.YtjhicgllofjpoaaGreatDoorYA
import Derived.Test.YtjhicgllofjpoaaGreatDoorUC
import Derived.Deep.RegionHeld3
namespace Go.Proofs.YtjhicgllofjpoaaGreatDoor
open Go.RowKit Go.Sort

set_option maxHeartbeats 8000000 in
set_option maxRecDepth 100000 in
theorem asks_long (s : ByteArray) (d : Int) (w : World) (hG : GlobS w) (h : 3000 < s.size) : Calls Tryz.prog 4 #[.string s, .int .i64 d] w (LawF w) := by
  have H0 := Lib.hid (palive_yes w hG)
  have g1 : decide (3000 < (s.size : Int)) = true := by simp; omega
  clear h hG
  go_enter Tryz.func4, Tryz.ntmps4
  go_wp2_with fail
  with_reducible refine (H0.out).mono ?_
  rintro e w1 ⟨rfl, hb1⟩
  have HB1 := Lib.hid hb1
  clear hb1
  go_wp2
  go_ret
  exact ⟨rfl, HB1.out⟩
set_option maxHeartbeats 8000000 in
set_option maxRecDepth 100000 in
theorem asks_arg (s : ByteArray) (d : Int) (w : World) (hG : GlobS w) (hs : s.size ≤ 3000) (hd : BadD d) : Calls Tryz.prog 4 #[.string s, .int .i64 d] w (LawF w) := by
  have H0 := Lib.hid (palive_yes w hG)
  have g1 : decide (3000 < (s.size : Int)) = false := by simp; omega
  have HG := Lib.hid hG
  have HN := Lib.hid (fun (W : World) (hW : GlobS W) => num_errno 1 W hW.glob)
  have HP := Lib.hid (fun (W : World) (hW : GlobS W) => pos_errno 1 W hW.glob)
  have H2 := Lib.hid (fun (W : World) => pqueries_arg (s := s) W hd)
  have H3 := Lib.hid (fun (W : World) => rfqueries_bad s d W hd)
  clear hs hG hd
  go_enter Tryz.func4, Tryz.ntmps4
  go_wp2_with fail
  with_reducible refine (H0.out).mono ?_
  rintro e w1 ⟨rfl, hb1⟩
  have HB1 := Lib.hid hb1
  clear hb1
  go_wp2_with fail
  refine (H2.out _).mono ?_
  rintro e w2 ⟨rfl, hb2⟩
  have HB2 := Lib.hid (HB1.out.trans (hb2.mono HB1.out.size))
  clear hb2
  go_wp2_with fail
  refine (H3.out _).mono ?_
  rintro e w3 ⟨rfl, hb3⟩
  have HB3 := Lib.hid (HB2.out.trans (hb3.mono HB2.out.size))
  clear hb3
  go_wp2_with fail
  refine (HN.out w3 (HG.out.below HB3.out)).mono ?_
  rintro e w6 ⟨rfl, hb6⟩
  have HB6 := Lib.hid (HB3.out.trans (hb6.mono HB3.out.size))
  clear hb6
  go_wp2_with fail
  refine (HP.out w6 (HG.out.below HB6.out)).mono ?_
  rintro e w7 ⟨rfl, hb7⟩
  have HB7 := Lib.hid (HB6.out.trans (hb7.mono HB6.out.size))
  clear hb7
  go_wp2
  go_loopw [10] (fun i wr => AkNil w i wr) (fun i _ => 0)
  case atStart => exact ⟨rfl, HB7.out⟩
  case round =>
    obtain ⟨rfl, hb⟩ := hrel
    have HBb := Lib.hid hb
    clear hb
    go_wp2
    go_ret
    exact ⟨rfl, HBb.out⟩
set_option maxHeartbeats 8000000 in
set_option maxRecDepth 100000 in
theorem asks_er (s : ByteArray) (l : Nat) (w : World) (hG : GlobS w) (hs : s.size ≤ 3000) (h64 : l + 1 ≤ 64) {c q : Nat} (hp : parseQs (l + 1) s.data.toList = .er c q) : Calls Tryz.prog 4 #[.string s, .int .i64 ((l + 1 : Nat) : Int)] w (LawF w) := by
  have H0 := Lib.hid (palive_yes w hG)
  have g1 : decide (3000 < (s.size : Int)) = false := by simp; omega
  have g3 : (((c : Nat) : Int) != (c : Int)) = false := by simp
  have g4 : (((q : Nat) : Int) != (q : Int)) = false := by simp
  have HG := Lib.hid hG
  have H2 := Lib.hid (fun (W : World) (hW : GlobS W) => pqueries_any (s := s) (D := l + 1) W hW (by omega) (by omega) h64)
  have H3 := Lib.hid (fun (W : World) => rfqueries_any (s := s) (l := l) W (by omega) h64)
  rw [hp] at H2 H3
  obtain ⟨z, hz⟩ : ∃ z : Int, z = ((l + 1 : Nat) : Int) := ⟨_, rfl⟩
  rw [← hz] at H2 H3 ⊢
  clear hs hG hp h64 hz
  go_enter Tryz.func4, Tryz.ntmps4
  go_wp2_with fail
  with_reducible refine (H0.out).mono ?_
  rintro e w1 ⟨rfl, hb1⟩
  have HB1 := Lib.hid hb1
  clear hb1
  go_wp2_with fail
  refine (H2.out _ (HG.out.below HB1.out)).mono ?_
  rintro e w2 ⟨b, rfl, hA, hb2⟩
  have HB2 := Lib.hid (HB1.out.trans (hb2.mono HB1.out.size))
  have HA := Lib.hid hA
  clear hb2 hA
  go_wp2_with fail
  refine (H3.out _).mono ?_
  rintro e w3 ⟨rfl, hb3, hc0⟩
  have HB3 := Lib.hid (HB2.out.trans (hb3.mono HB2.out.size))
  have HA3 := Lib.hid (HA.out.below hb3)
  clear hb3 hc0
  go_wp2_with fail
  refine (num_at b q c w3 (HG.out.below HB3.out).glob HA3.out).mono ?_
  rintro e w6 ⟨rfl, hb6⟩
  have HB6 := Lib.hid (HB3.out.trans (hb6.mono HB3.out.size))
  have HA6 := Lib.hid (HA3.out.below hb6)
  clear hb6
  go_wp2_with fail
  refine (pos_at b q c w6 (HG.out.below HB6.out).glob HA6.out).mono ?_
  rintro e w7 ⟨rfl, hb7⟩
  have HB7 := Lib.hid (HB6.out.trans (hb7.mono HB6.out.size))
  clear hb7
  go_wp2
  go_loopw [10] (fun i wr => AkNil w i wr) (fun i _ => 0)
  case atStart => exact ⟨rfl, HB7.out⟩
  case round =>
    obtain ⟨rfl, hb⟩ := hrel
    have HBb := Lib.hid hb
    clear hb
    go_wp2
    go_ret
    exact ⟨rfl, HBb.out⟩
set_option maxHeartbeats 8000000 in
set_option maxRecDepth 100000 in
theorem asks_ok (s : ByteArray) (l : Nat) (w : World) (hG : GlobS w) (hs : s.size ≤ 3000) (h64 : l + 1 ≤ 64) {L : List Qr} (hp : parseQs (l + 1) s.data.toList = .ok L) : Calls Tryz.prog 4 #[.string s, .int .i64 ((l + 1 : Nat) : Int)] w (LawF w) := by
  have H0 := Lib.hid (palive_yes w hG)
  have g1 : decide (3000 < (s.size : Int)) = false := by simp; omega
  have HG := Lib.hid hG
  have H2 := Lib.hid (fun (W : World) (hW : GlobS W) => pqueries_any (s := s) (D := l + 1) W hW (by omega) (by omega) h64)
  have H3 := Lib.hid (fun (W : World) => rfqueries_any (s := s) (l := l) W (by omega) h64)
  rw [hp] at H2 H3
  have hsl : s.data.toList.length = s.size := by simp
  have hqs := parse_qs (by omega) hp
  have hqp := parse_qpos hp
  rw [hsl] at hqs hqp
  have HFX := Lib.hid (show ∀ (k : Nat) (h : k < L.length), ∃ f, L[k].f = some f ∧ FxQ f ∧ L[k].kind.length = 6 from fun k h => by
    obtain ⟨f, hf, hok, hol, hnd, hkd⟩ := hqs.1 _ (List.getElem_mem h)
    have hle := told_le h hf
    have hfo := tlq_fo L[k].kind f
    have hpb := hqp _ (List.getElem_mem h) f hf
    have h1 := size_tlF f hok
    have h2 := shpF_tl (B := s.size) (by omega) f hok hpb
    exact ⟨f, hf, ⟨hok, ⟨_, by omega, hpb⟩, by omega, by omega⟩, kdq_len hkd⟩)
  have hLn : L.length ≤ 15000 := by
    have : L.length ≤ (L.flatMap Qr.told).length := told_many _ L hqs.1
    omega
  obtain ⟨z, hz⟩ : ∃ z : Int, z = ((l + 1 : Nat) : Int) := ⟨_, rfl⟩
  rw [← hz] at H2 H3 ⊢
  clear hs hG hp h64 hz hqs hqp hsl
  go_enter Tryz.func4, Tryz.ntmps4
  go_wp2_with fail
  with_reducible refine (H0.out).mono ?_
  rintro e w1 ⟨rfl, hb1⟩
  have HB1 := Lib.hid hb1
  clear hb1
  go_wp2_with fail
  refine (H2.out _ (HG.out.below HB1.out)).mono ?_
  rintro e w2 ⟨A, c1, rfl, hR, hb2⟩
  have HB2 := Lib.hid (HB1.out.trans (hb2.mono HB1.out.size))
  have HK2 := Lib.hid hR.qk
  clear hb2 hR
  go_wp2_with fail
  refine (H3.out _).mono ?_
  rintro e w3 ⟨B, c2, rfl, hR, hb3⟩
  have HB3 := Lib.hid (HB2.out.trans (hb3.mono HB2.out.size))
  have HK3 := Lib.hid (HK2.out.below hb3)
  have HM3 := Lib.hid hR.qk
  clear hb3 hR
  obtain ⟨n, hn⟩ : ∃ n, n = L.length := ⟨_, rfl⟩
  have HN := Lib.hid hn
  rw [← hn] at hLn ⊢
  clear hn
  have gn : ((n : Int) != (n : Int)) = false := by simp
  go_wp2_with fail
  refine (num_nil2 w3).mono ?_
  rintro e _ ⟨rfl, rfl⟩
  go_wp2_with fail
  refine (pos_nil w3).mono ?_
  rintro e w7 ⟨rfl, hb7⟩
  have HB7 := Lib.hid (HB3.out.trans (hb7.mono HB3.out.size))
  have HK7 := Lib.hid (HK3.out.below hb7)
  have HM7 := Lib.hid (HM3.out.below hb7)
  clear hb7
  go_wp2
  go_loopw [10] (fun i wr => AkRel L A B w i wr) (fun i _ => n - (intOf i).toNat)
  case atStart => exact ⟨0, rfl, Nat.zero_le _, HB7.out, HK7.out, HM7.out⟩
  case round =>
    obtain ⟨k, rfl, hk, hb, hK, hM⟩ := hrel
    by_cases hlt : k < n
    · have g2 : decide ((k : Int) < (n : Int)) = true := by simp; omega
      have k1 : k < L.length := by rw [← HN.out]; exact hlt
      obtain ⟨f, hf, hfx, hkd⟩ := HFX.out k k1
      obtain ⟨a, va, hA1, hla, c0, c1', c2', c3, c4, c5, hFa⟩ := hK k k1
      obtain ⟨b, vb, hB1, hlb, d0, d1, d2, d3, d4, d5, hFb⟩ := hM k k1
      subst hA1 hB1
      rw [hf] at hFa hFb
      have LK := Lib.hid (show MemQ w wr (some ⟨a, 0, none⟩) (some ⟨b, 0, none⟩) L a b k va vb ⟨L[k].kind.toArray⟩ (L[k].pos : Int) f from ⟨hK, hM, hb, hla, hlb, c0, d0, c5, d5, ⟨hla, c1', c2', c3, c4, hFa⟩, d1, d2, d3, d4, hFb⟩)
      have hks : (⟨L[k].kind.toArray⟩ : ByteArray).size ≤ 100 := by show L[k].kind.toArray.size ≤ 100; simp; omega
      obtain ⟨tp, htp, _⟩ := str_ofF (shpF f) 1000000 hfx.sl
      obtain ⟨tw, htw, htws⟩ := str_ofF (tlF f) 15000 hfx.ln
      have HTP := Lib.hid htp
      have HTW := Lib.hid htw
      have FX := Lib.hid hfx
      clear hK hM hb hla hlb c0 c1' c2' c3 c4 c5 d0 d1 d2 d3 d4 d5 hFa hFb hf hfx hkd hk htp htw
      generalize (⟨L[k].kind.toArray⟩ : ByteArray) = kd at LK hks
      generalize (L[k].pos : Int) = q at LK
      have g5 : (kd.toList == kd.toList) = true := by simp
      have g6 : (tp.toList == tp.toList) = true := by simp
      have g7 : ((kd ++ (⟨#[32, 91, 32]⟩ : ByteArray) ++ tw ++ (⟨#[32, 93]⟩ : ByteArray)).toList == (kd ++ (⟨#[32, 91, 32]⟩ : ByteArray) ++ tw ++ (⟨#[32, 93]⟩ : ByteArray)).toList) = true := by simp
      have g8 : (q == q) = true := by simp
      have n1 : ¬ 9223372036854775807 < kd.size + 3 := by omega
      have n2 : ¬ 9223372036854775807 < kd.size + 3 + tw.size := by omega
      have n3 : ¬ 9223372036854775807 < kd.size + 3 + tw.size + 2 := by omega
      have HKS := Lib.hid hks
      clear hks htws
      have lk := LK.out.drew
      clear LK
      go_wp2_with fail
      go_region_held3 (fun w' => w'.cell? ⟨a, k * 6, none⟩ = some (.string kd) ∧ w'.cell? ⟨b, k * 6, none⟩ = some (.string kd) ∧ w'.cell? ⟨a, k * 6 + 5, none⟩ = some (.int .i64 q) ∧ w'.cell? ⟨b, k * 6 + 5, none⟩ = some (.int .i64 q) ∧ w'.cell? ⟨a, k * 6 + 1, none⟩ = some (.string va.o) ∧ w'.cell? ⟨a, k * 6 + 1 + 1, none⟩ = some (.string va.nm) ∧ w'.cell? ⟨a, k * 6 + 1 + 2, none⟩ = some (.slice va.A va.ll va.cap) ∧ w'.cell? ⟨a, k * 6 + 1 + 3, none⟩ = some (.int .i64 va.p) ∧ w'.cell? ⟨a, k * 6 + 2, none⟩ = some (.string va.nm) ∧ w'.cell? ⟨a, k * 6 + 3, none⟩ = some (.slice va.A va.ll va.cap) ∧ w'.cell? ⟨a, k * 6 + 4, none⟩ = some (.int .i64 va.p) ∧ w'.cell? ⟨b, k * 6 + 1, none⟩ = some (.string vb.o) ∧ w'.cell? ⟨b, k * 6 + 1 + 1, none⟩ = some (.string vb.nm) ∧ w'.cell? ⟨b, k * 6 + 1 + 2, none⟩ = some (.slice vb.A vb.ll vb.cap) ∧ w'.cell? ⟨b, k * 6 + 1 + 3, none⟩ = some (.int .i64 vb.p)) (exact lk.S) (first
        | (go_at_call 12; (with_reducible refine (lk.to).mono ?_); rintro e wA ⟨v7, rfl, tX, lk2⟩; replace lk := lk2; clear lk2)
        | (go_at_call 11; (with_reducible refine (lk.shape FX.out tX HTP.out).mono ?_); rintro e wA ⟨rfl, lk2⟩; replace lk := lk2; clear lk2 tX)
        | (go_at_call 11; (with_reducible refine (lk.shape FX.out lk.fb HTP.out).mono ?_); rintro e wA ⟨rfl, lk2⟩; replace lk := lk2; clear lk2)
        | (go_at_call 22; (with_reducible refine (lk.ask FX.out HTW.out HKS.out).mono ?_); rintro e wA ⟨rfl, lk2⟩; replace lk := lk2; clear lk2)
        | (go_at_call 14; (with_reducible refine (lk.rprint FX.out HTW.out).mono ?_); rintro e wA ⟨rfl, lk2⟩; replace lk := lk2; clear lk2))
      all_goals go_wp2
      all_goals go_roundw
      case rel => exact ⟨k + 1, by go_num, by omega, lk.bl, lk.k1, lk.k2⟩
      case measure => simp [intOf]; omega
    · have g2 : decide ((k : Int) < (n : Int)) = false := by simp; omega
      have HBb := Lib.hid hb
      clear hb hK hM hk
      go_wp2
      go_ret
      exact ⟨rfl, HBb.out⟩
theorem pasks_yes (s : ByteArray) (d : Int) (w : World) (hG : GlobS w) (hs : s.size ≤ 140737488355328) : Calls Tryz.prog 4 #[.string s, .int .i64 d] w (LawF w) := by
  by_cases h : 3000 < s.size
  · exact asks_long s d w hG h
  · rcases bad_or d with hb | ⟨D, rfl, h1, h2⟩
    · exact asks_arg s d w hG (by omega) hb
    · obtain ⟨l, rfl⟩ : ∃ l, D = l + 1 := ⟨D - 1, by omega⟩
      cases hp : parseQs (l + 1) s.data.toList with
      | er c p => exact asks_er s l w hG (by omega) h2 hp
      | ok L => exact asks_ok s l w hG (by omega) h2 hp
end Go.Proofs.YtjhicgllofjpoaaGreatDoor
