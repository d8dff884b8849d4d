/-
  Find of any slice in any table: its vector's number, or that it isn't there.
-/
import Derived.Test.YtoppjkdlloddmaaDoorL3
namespace Go.Proofs.YtoppjkdlloddmaaDoor
open Go.RowKit

/-- What Find answers. -/
def FindF (vs : List (List Int)) (xs : List Int) (w : World) (e : Ending) (w' : World) : Prop :=
  ((∃ i, i < vs.length ∧ vs.getD i [] = xs ∧ e = .returned (.tuple #[.int .i64 (i : Int), .bool true])) ∨ ((∀ j, j < vs.length → vs.getD j [] ≠ xs) ∧ e = .returned (.tuple #[.int .i64 0, .bool false]))) ∧ ∃ n, w' = w.drewN n
def FindRel (vs : List (List Int)) (xs : List Int) (m : Nat) (w : World) (i : Value) (wr : World) : Prop :=
  ∃ k, k ≤ vs.length ∧ i = .int .i64 (lastP (fun j => decide (plf vs m j = hashN xs % m)) k) ∧ Passed vs xs k ∧ ∃ d, wr = w.drewN d

set_option maxHeartbeats 400000 in
theorem find_none {w : World} {b : Nat} (hL : Calls Tryd.prog 10 #[.pointer (some ⟨b, 0, none⟩)] w fun e w' => e = .returned (.int .i64 0) ∧ w' = w) (v : Value) :
    Calls Tryd.prog 7 #[.pointer (some ⟨b, 0, none⟩), v] w fun e w' => e = .returned (.tuple #[.int .i64 0, .bool false]) ∧ w' = w := by
  have HL := Lib.hid hL
  clear hL
  go_enter Tryd.func7, Tryd.ntmps7
  go_wp2_with fail
  refine HL.out.mono ?_
  rintro e w' ⟨rfl, rfl⟩
  go_wp2_with fail
  go_ret2
  exact ⟨rfl, rfl⟩

set_option maxHeartbeats 400000 in
theorem find_some {w : World} {B b : Nat} {vs : List (List Int)} {v : Value} {xs : List Int} (h : Tab w B b vs) (hv : R32 w v xs) (hx : xs.length ≤ 9223372036854775807) (hn : 0 < vs.length) (hl : vs.length ≤ 1000) :
    Calls Tryd.prog 7 #[.pointer (some ⟨b, 0, none⟩), v] w (FindF vs xs w) := by
  have HL := Lib.hid h.len_
  obtain ⟨m, ev, hva, vl, nx, hs, h1, hch, hnm, hm16, _, h64⟩ := h
  obtain ⟨ge, ce, hev, _, _, _, hce⟩ := h1.entAt hn
  obtain ⟨gh, ch, hhv, _, _, _, hch2⟩ := h1.heaAt (by omega)
  subst hev hhv
  have hc0 := h1.c0
  have hc1 := h1.c1
  have HT := Lib.hid h1
  have HV := Lib.hid hv
  have HCE := Lib.hid hce
  have HCH := Lib.hid hch
  have hmp : 0 < m := by omega
  have hpl : hashN xs % m < m := Nat.mod_lt _ hmp
  have hch3 := (hch2 _ hpl).1
  have HS0 := Lib.hid (hch.1 _ hpl)
  have H64 := Lib.hid h64
  have HP := Lib.hid (fun n : Nat => place_raw (HV.out.drewN n) hx (by exact hc1) hmp (by omega))
  have HR := Lib.hid (show FindRel vs xs m w (.int .i64 (hs (hashN xs % m))) w from ⟨vs.length, Nat.le_refl _, by rw [hch.1 _ hpl], fun j h1 h2 => by omega, 0, rfl⟩)
  clear h1 hv hce hch hch2 h64
  have hb0 : ((vs.length : Int) == 0) = false := by rw [beq_eq_false_iff_ne]; omega
  have p0 : (0 : Int) ≤ ((hashN xs % m : Nat) : Int) := by omega
  have p1 : ((hashN xs % m : Nat) : Int) < (m : Int) := by omega
  generalize hgp : hashN xs % m = p at hch3 p0 p1 hpl HR HP HS0
  have HGP := Lib.hid hgp
  clear hgp
  generalize hs p = z0 at *
  go_enter Tryd.func7, Tryd.ntmps7
  go_wp2_with fail
  refine HL.out.mono ?_
  rintro e w' ⟨rfl, hw'⟩
  rw [hw']
  clear hw' w'
  go_wp2_with fail
  go_quiet ((go_at_call 13; exact Calls.quiet_of (HP.out _)))
  go_wp2_with fail
  clear hb0 hch3
  go_loopw [6] (fun i wr => FindRel vs xs m w i wr) (fun i _ => (intOf i + 1).toNat)
  case atStart =>
    obtain ⟨k, a1, a2, a3, d, _⟩ := HR.out
    exact ⟨k, a1, a2, a3, _, rfl⟩
  case round =>
    obtain ⟨k, hk, hi, hps, d, rfl⟩ := hrel
    have HPS := Lib.hid hps
    clear hps
    have hcases := lastP_cases (fun j => decide (plf vs m j = hashN xs % m)) k
    generalize lastP (fun j => decide (plf vs m j = hashN xs % m)) k = z at *
    subst hi
    rcases hcases with ⟨rfl, hno⟩ | ⟨i, rfl, hik, hpi, hno⟩
    · have HNO := Lib.hid hno
      clear hno
      go_wp2_with fail
      go_ret2
      exact ⟨.inr ⟨passed_end HPS.out HNO.out, rfl⟩, d, rfl⟩
    · have HNO := Lib.hid hno
      have HPI := Lib.hid hpi
      clear hno hpi
      have hiv : i < vs.length := by omega
      have hcv := (HCE.out i hiv).1
      have hcn := (HCE.out i hiv).2.1
      have hne : ((i : Int) != -1) = true := by rw [bne_iff_ne]; omega
      have i0 : (0 : Int) ≤ (i : Int) := by omega
      have i1 : (i : Int) < (vs.length : Int) := by omega
      have hil := H64.out i
      by_cases he : vs.getD i [] = xs
      · have HE := Lib.hid he
        clear he
        go_wp2_with fail
        refine (equal_any ((HT.out.r32 i hiv).drewN d) (HV.out.drewN d) (by omega) hx).mono ?_
        rintro e w' ⟨rfl, d2, rfl⟩
        rw [show decide (vs.getD i [] = xs) = true by rw [decide_eq_true_iff]; exact HE.out]
        go_wp2_with fail
        go_ret2
        exact ⟨.inl ⟨i, hiv, HE.out, rfl⟩, d + d2, rfl⟩
      · have HE := Lib.hid he
        clear he
        go_wp2_with fail
        refine (equal_any ((HT.out.r32 i hiv).drewN d) (HV.out.drewN d) (by omega) hx).mono ?_
        rintro e w' ⟨rfl, d2, rfl⟩
        rw [show decide (vs.getD i [] = xs) = false by rw [decide_eq_false_iff_not]; exact HE.out]
        have HNX := Lib.hid (HCH.out.2 i hiv)
        go_wp2_with fail
        go_roundw
        case rel =>
          refine ⟨i, by omega, ?_, passed_step HPS.out HE.out HNO.out, d + d2, rfl⟩
          rw [HNX.out]
          have := of_decide_eq_true HPI.out
          rw [this]
        case measure =>
          have hlt : lastP (fun a => decide (plf vs m a = plf vs m i)) i < (i : Int) := by
            rcases lastP_cases (fun a => decide (plf vs m a = plf vs m i)) i with ⟨h1, _⟩ | ⟨q, h1, h2, _⟩
            · rw [h1]; omega
            · rw [h1]; omega
          simp only [intOf]
          rw [HNX.out]
          omega

theorem find_any {w : World} {B b : Nat} {vs : List (List Int)} {v : Value} {xs : List Int} (h : Tab w B b vs) (hv : R32 w v xs) (hx : xs.length ≤ 9223372036854775807) (hl : vs.length ≤ 1000) :
    Calls Tryd.prog 7 #[.pointer (some ⟨b, 0, none⟩), v] w (FindF vs xs w) := by
  rcases Nat.eq_zero_or_pos vs.length with h0 | h0
  · have hL := h.len_
    rw [h0] at hL
    refine (find_none hL v).mono ?_
    rintro e w' ⟨rfl, rfl⟩
    exact ⟨.inr ⟨fun j hj => by omega, rfl⟩, 0, rfl⟩
  · exact find_some h hv hx h0 hl
end Go.Proofs.YtoppjkdlloddmaaDoor
