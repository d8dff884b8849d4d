/-
  The walk of SafeSums.
-/
import Derived.Test.YtcaognakjigmbaaDoorN1
namespace Go.Proofs.YtcaognakjigmbaaDoor
open Go.RowKit

theorem all_take {xs : List Int} (h : All xs) (k : Nat) : All (xs.take k) := by
  intro i hi
  rw [List.length_take] at hi
  have := h i (by omega)
  rw [List.getD_eq_getElem?_getD] at this ⊢
  rw [List.getElem?_take_of_lt (by omega)]
  exact this
theorem all_drop {xs : List Int} (h : All xs) (k : Nat) : All (xs.drop k) := by
  intro i hi
  rw [List.length_drop] at hi
  have := h (k + i) (by omega)
  rw [List.getD_eq_getElem?_getD] at this ⊢
  rw [List.getElem?_drop]
  exact this
theorem R64.take {w : World} {ad : Option Addr} {n cap : Nat} {xs : List Int} (h : R64 w (.slice ad n cap) xs) (k : Nat) (hk : k ≤ n) (c : Nat) : R64 w (.slice ad k c) (xs.take k) := by
  obtain ⟨ad', cap', e, h2⟩ := h
  injection e with e1 e2 e3
  subst e1 e2
  have hl : (xs.take k).length = k := by rw [List.length_take]; omega
  refine ⟨ad, c, by rw [hl], fun i hi => ?_⟩
  obtain ⟨p, hp, hs, hc⟩ := h2 i (by omega)
  refine ⟨p, hp, hs, hc.trans ?_⟩
  rw [List.getD_eq_getElem?_getD, List.getD_eq_getElem?_getD, List.getElem?_take_of_lt (by omega)]
theorem R64.drop {w : World} {a : Addr} {n cap : Nat} {xs : List Int} (h : R64 w (.slice (some a) n cap) xs) (k : Nat) (hk : k ≤ n) (c : Nat) : R64 w (.slice (some ⟨a.block, a.off + k, none⟩) (n - k) c) (xs.drop k) := by
  obtain ⟨ad', cap', e, h2⟩ := h
  injection e with e1 e2 e3
  subst e1 e2
  have hl : (xs.drop k).length = xs.length - k := by rw [List.length_drop]
  refine ⟨_, c, by rw [hl], fun i hi => ?_⟩
  obtain ⟨p, hp, _, hc⟩ := h2 (k + i) (by omega)
  injection hp with hp
  subst hp
  refine ⟨_, rfl, rfl, ?_⟩
  simp only
  rw [Nat.add_assoc, hc, List.getD_eq_getElem?_getD, List.getD_eq_getElem?_getD, List.getElem?_drop]
theorem R64.empty {w : World} {ad : Option Addr} {c : Nat} : R64 w (.slice ad 0 c) [] := ⟨ad, c, rfl, fun k hk => absurd hk (by simp)⟩

theorem R64.past {w : World} {ad : Option Addr} {c n : Nat} {xs : List Int} (hn : xs.length = n) (k : Nat) (hk : n ≤ k) : R64 w (.slice ad (n - k) c) (xs.drop k) := by
  subst hn
  exact ⟨ad, c, by rw [List.length_drop], fun i hi => absurd hi (by rw [List.length_drop]; omega)⟩

/-- A list's sum, that of its beginning and that of the rest. -/
theorem sums_parts (xs : List Int) (k : Nat) : (sums 0 (xs.take k) = none → sums 0 xs = none) ∧
    ∀ u v t, sums 0 (xs.take k) = some u → sums 0 (xs.drop k) = some v → sums 0 xs = some t → t = u + v ∧ Fits u ∧ Fits v ∧ Fits t := by
  have h := sums_append (xs.take k) (xs.drop k) 0
  rw [List.take_append_drop] at h
  refine ⟨fun h0 => by rw [h, h0]; rfl, fun u v t h1 h2 h3 => ?_⟩
  have e1 := sums_is _ _ _ h1
  have e2 := sums_is _ _ _ h2
  have e3 := sums_is _ _ _ h3
  have es : xs.sum = (xs.take k).sum + (xs.drop k).sum := by rw [← List.sum_append, List.take_append_drop]
  exact ⟨by omega, sums_fits _ _ _ fits_zero h1, sums_fits _ _ _ fits_zero h2, sums_fits _ _ _ fits_zero h3⟩
def Parts (s0 s1 s2 : Option Int) : Prop := (s1 = none → s0 = none) ∧ ∀ u v t, s1 = some u → s2 = some v → s0 = some t → t = u + v ∧ Fits u ∧ Fits v ∧ Fits t
theorem far_some (u : Int) : far (some u) = u := rfl
theorem far_fits (xs : List Int) (u : Int) (h : sums 0 xs = some u) : Fits u := sums_fits _ _ _ fits_zero h

set_option maxHeartbeats 1000000 in
set_option maxRecDepth 100000 in
theorem sums_yes {xs : List Int} {a : Addr} {cap : Nat} (at_ : Nat) (hat : at_ < 256) (w : World) (hG : Glob w) (hv : R64 w (.slice (some a) xs.length cap) xs) (hs : a.spot = none) (hcap : xs.length ≤ cap) (hal : All xs) (hlen : xs.length ≤ 1000) :
    Calls Tryd.prog 7 #[.slice (some a) xs.length cap, .int .u8 at_] w (LawF w) := by
  have HL := Lib.hid (alive_yes w hG)
  have HV := Lib.hid hv
  have HA := Lib.hid hal
  obtain ⟨k, hk⟩ : ∃ k, k = at_ % (xs.length + 1) := ⟨_, rfl⟩
  have hkl : k ≤ xs.length := by have := Nat.mod_lt at_ (show 0 < xs.length + 1 by omega); omega
  have hm : (at_ : Int) % ((xs.length : Int) + 1) = k := by rw [hk, Int.natCast_emod]; rfl
  generalize hn : xs.length = n at *
  have HN := Lib.hid hn
  clear hv hal hG hn hk
  obtain ⟨ab, ao, sp⟩ := a
  simp only at hs
  subst hs
  go_enter Tryd.func7, Tryd.ntmps7
  go_wp2_with fail
  (with_reducible refine HL.out.mono ?_)
  rintro e w1 ⟨rfl, hb1⟩
  have HB1 := Lib.hid hb1
  clear hb1
  go_wp2_with fail
  (with_reducible refine (sum_any (HV.out.below HB1.out) (by rw [HN.out]; omega) HA.out).mono ?_)
  rintro e w' ⟨rfl, rfl⟩
  unfold told
  go_wp2_with fail
  (with_reducible refine (sum_any ((HV.out.below HB1.out).take k hkl cap) (by rw [List.length_take]; omega) (all_take HA.out k)).mono ?_)
  rintro e w' ⟨rfl, rfl⟩
  unfold told
  have HP := Lib.hid (show Parts (sums 0 xs) (sums 0 (xs.take k)) (sums 0 (xs.drop k)) from sums_parts xs k)
  have F0 := Lib.hid (far_fits xs)
  have F1 := Lib.hid (far_fits (xs.take k))
  have F2 := Lib.hid (far_fits (xs.drop k))
  have HS := Lib.hid (show ∀ v, R64 w1 v (xs.drop k) → Calls Tryd.prog 20 #[v] w1 (SumF (xs.drop k) w1) from fun v hv => sum_any hv (by rw [List.length_drop, HN.out]; omega) (all_drop HA.out k))
  have HD := Lib.hid ((HV.out.below HB1.out).drop k hkl (cap - k))
  have HE := Lib.hid (fun h : n ≤ k => R64.past (w := w1) (ad := some ⟨ab, ao, none⟩) (c := 0) HN.out k h)
  unfold SumF at HS
  clear HA HN HL HV
  generalize xs.drop k = ys at *
  generalize xs.take k = zs at *
  generalize sums 0 xs = s0 at *
  generalize sums 0 zs = s1 at *
  generalize sums 0 ys = s2 at *
  by_cases hck : cap = k
  case' pos =>
    go_wp2_with fail
    (with_reducible refine (HS.out _ (HE.out (by omega))).mono ?_)
    rintro e w' ⟨rfl, rfl⟩
  case' neg =>
    go_wp2_with fail
    (with_reducible refine (HS.out _ HD.out).mono ?_)
    rintro e w' ⟨rfl, rfl⟩
  all_goals
    clear HS HD HE
    rcases s1 with _ | u
  all_goals rcases s0 with _ | t
  all_goals rcases s2 with _ | v
  all_goals first | (exfalso; have := HP.out.1 rfl; cases this; done) | skip
  all_goals first | (have h0 := F0.out _ rfl) | (have h0 := far_not)
  all_goals first | (have h1 := F1.out _ rfl) | (have h1 := far_not)
  all_goals first | (have h2 := F2.out _ rfl) | (have h2 := far_not)
  all_goals try (have h3 := (HP.out.2 _ _ _ rfl rfl rfl).1)
  all_goals try (have HT := Lib.hid (add_any u v h1 h2))
  all_goals try subst h3
  all_goals
    unfold told
    try simp only [far_some]
    first | rw [val_fits h0, er_fits h0] | rw [val_not h0, er_not h0]
    try first | rw [val_fits h1, er_fits h1] | rw [val_not h1, er_not h1]
    try first | rw [val_fits h2, er_fits h2] | rw [val_not h2, er_not h2]
    have H0 := Lib.hid h0
    clear h0 h1 h2 HP F0 F1 F2
  all_goals first
    | (go_wp2_with fail
       (with_reducible refine (HT.out _).mono ?_)
       rintro e w' ⟨rfl, rfl⟩
       rw [told_fits H0.out]
       go_wp2
       go_ret
       exact ⟨rfl, HB1.out⟩)
    | (go_wp2
       go_ret
       exact ⟨rfl, HB1.out⟩)

set_option maxHeartbeats 1000000 in
set_option maxRecDepth 100000 in
theorem sums_long (n : Nat) (ad : Option Addr) (cap at_ : Nat) (w : World) (hG : Glob w) (hlen : 1000 < n) (hm : n ≤ maxLen) :
    Calls Tryd.prog 7 #[.slice ad n cap, .int .u8 at_] w (LawF w) := by
  have HL := Lib.hid (alive_yes w hG)
  unfold maxLen at hm
  clear hG
  go_enter Tryd.func7, Tryd.ntmps7
  go_wp2_with fail
  (with_reducible refine HL.out.mono ?_)
  rintro e w1 ⟨rfl, hb1⟩
  have HB1 := Lib.hid hb1
  clear hb1
  go_wp2
  go_ret
  exact ⟨rfl, HB1.out⟩

theorem sum_none (ad : Option Addr) (cap : Nat) (w : World) : Calls Tryd.prog 20 #[.slice ad 0 cap] w fun e w' => e = .returned (.tuple #[.int .i64 0, .nilIface]) ∧ w = w' :=
  (sum_any (R64.empty (ad := ad) (c := cap)) (by simp) (fun k hk => absurd hk (by simp))).mono fun _ _ h => h

set_option maxHeartbeats 1000000 in
set_option maxRecDepth 100000 in
theorem sums_none (ad : Option Addr) (cap at_ : Nat) (w : World) (hG : Glob w) (h0 : ad = none → cap = 0) (hat : at_ < 256) :
    Calls Tryd.prog 7 #[.slice ad 0 cap, .int .u8 at_] w (LawF w) := by
  have HL := Lib.hid (alive_yes w hG)
  have HS := Lib.hid sum_none
  have HA := Lib.hid (add_any 0 0 fits_zero fits_zero)
  clear hG
  have hz : (at_ : Int) % 1 = 0 := by omega
  by_cases hc : cap = 0
  · subst hc
    clear h0
    rcases ad with _ | a
    all_goals
      go_enter Tryd.func7, Tryd.ntmps7
      go_wp2_with fail
      (with_reducible refine HL.out.mono ?_)
      rintro e w1 ⟨rfl, hb1⟩
      have HB1 := Lib.hid hb1
      clear hb1
      go_wp2_with fail
      (with_reducible refine (HS.out _ _ _).mono ?_)
      rintro e w' ⟨rfl, rfl⟩
      go_wp2_with fail
      (with_reducible refine (HS.out _ _ _).mono ?_)
      rintro e w' ⟨rfl, rfl⟩
      go_wp2_with fail
      (with_reducible refine (HS.out _ _ _).mono ?_)
      rintro e w' ⟨rfl, rfl⟩
      go_wp2_with fail
      (with_reducible refine (HA.out _).mono ?_)
      rintro e w' ⟨rfl, rfl⟩
      rw [Int.add_zero, told_fits fits_zero]
      go_wp2
      go_ret
      exact ⟨rfl, HB1.out⟩
  · rcases ad with _ | ⟨ab, ao, sp⟩
    · exact absurd (h0 rfl) hc
    clear h0
    go_enter Tryd.func7, Tryd.ntmps7
    go_wp2_with fail
    (with_reducible refine HL.out.mono ?_)
    rintro e w1 ⟨rfl, hb1⟩
    have HB1 := Lib.hid hb1
    clear hb1
    go_wp2_with fail
    (with_reducible refine (HS.out _ _ _).mono ?_)
    rintro e w' ⟨rfl, rfl⟩
    go_wp2_with fail
    (with_reducible refine (HS.out _ _ _).mono ?_)
    rintro e w' ⟨rfl, rfl⟩
    go_wp2_with fail
    (with_reducible refine (HS.out _ _ _).mono ?_)
    rintro e w' ⟨rfl, rfl⟩
    go_wp2_with fail
    (with_reducible refine (HA.out _).mono ?_)
    rintro e w' ⟨rfl, rfl⟩
    rw [Int.add_zero, told_fits fits_zero]
    go_wp2
    go_ret
    exact ⟨rfl, HB1.out⟩
end Go.Proofs.YtcaognakjigmbaaDoor
