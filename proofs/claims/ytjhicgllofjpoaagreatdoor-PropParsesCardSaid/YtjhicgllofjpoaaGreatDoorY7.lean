/-
  The document's labels of a formula: walked.
-/
import Derived.Test.YtjhicgllofjpoaaGreatDoorY6
import Derived.Test.YtjhicgllofjpoaaGreatDoorY5
namespace Go.Proofs.YtjhicgllofjpoaaGreatDoor
open Go.RowKit Go.Maps Go.Sort

def lb0 (x : Fo) : List (List UInt8) := if x.op = opLab then [x.nm] else []
/-- The labels when k kids have been gone through. -/
def lbA (x : Fo) (k : Nat) : List (List UInt8) := (x.kids.take k).foldl (fun acc y => (lbR y).foldl putL acc) (lb0 x)
theorem lbA_zero (x : Fo) : lbA x 0 = lb0 x := rfl
theorem lbA_all : ∀ {x : Fo}, OkF x → lbA x x.kids.length = lbR x
  | .leaf op nm p, _ => rfl
  | .un op a p, h => by
    have : lb0 (.un op a p) = [] := if_neg (fun e => by have h1 : pk op = 4 := h.1; rw [show op = opLab from e] at h1; exact absurd h1 (by decide))
    unfold lbA
    rw [this]
    rfl
  | .bin op a b p, h => by
    have : lb0 (.bin op a b p) = [] := if_neg (fun e => by have h1 : pk op < 4 := h.1; rw [show op = opLab from e] at h1; exact absurd h1 (by decide))
    unfold lbA
    rw [this]
    rfl
theorem lbA_step {x : Fo} {k : Nat} (h : k < x.kids.length) : lbA x (k + 1) = (lbR x.kids[k]).foldl putL (lbA x k) := by
  unfold lbA
  rw [List.take_succ_eq_append_getElem h, List.foldl_append]
  rfl
theorem lb0_len (x : Fo) : (lb0 x).length ≤ 1 := by unfold lb0; split <;> simp
theorem lbF_len : ∀ (ks : List Fo) (acc : List (List UInt8)), (ks.foldl (fun acc y => (lbR y).foldl putL acc) acc).length ≤ acc.length + sizesF ks
  | [], acc => by simp [sizesF]
  | y :: ks, acc => by
    have h1 := lbF_len ks ((lbR y).foldl putL acc)
    have h2 := fold_len (lbR y) acc
    have h3 := lbR_len y
    rw [List.foldl_cons, sizesF]
    omega
theorem lbA_len (x : Fo) (k : Nat) : (lbA x k).length ≤ x.size := by
  have h1 := lbF_len (x.kids.take k) (lb0 x)
  have h2 := lb0_len x
  have h3 := sizesF_le (ks := x.kids) k
  have h4 := size_sumF x
  unfold lbA
  omega
def RLbC (x : Fo) : Prop := ∀ (w : World) (S : Nat → Prop) (c : List Value), FS w 32 S x c → Calls Tryz.prog 19 #[.agg c.toArray] w (PutP (lbR x) w)
def LbRel (x : Fo) (S : Nat → Prop) (w : World) (A : Option Addr) (N cap : Nat) (o nm : ByteArray) (p : Int) (out i : Value) (wr : World) : Prop :=
  ∃ k : Nat, i = .int .i64 (k : Int) ∧ k ≤ N ∧ RL wr out (lbA x k) ∧ SLF w wr o nm p A N cap x.kids S
def LbIn (x : Fo) (S : Nat → Prop) (w : World) (A : Option Addr) (N cap : Nat) (o nm : ByteArray) (p : Int) (acc ls : List (List UInt8)) (v5 : Value) (out j : Value) (wr : World) : Prop :=
  ∃ m : Nat, j = .int .i64 (m : Int) ∧ m ≤ ls.length ∧ RL wr out ((ls.take m).foldl putL acc) ∧ RL wr v5 ls ∧ SLF w wr o nm p A N cap x.kids S
theorem rl_one (W : World) {nm : ByteArray} {x : List UInt8} (hx : strV x = .string nm) {B : Nat} (hB : B = W.heap.size) : RL (W.alloc (.cells #[.string nm] 9)) (.slice (some ⟨B, 0, none⟩) 1 1) [x] := by
  subst hB
  refine ⟨_, 1, rfl, fun i hi => ⟨_, rfl, (Bx.new W 9 [.string nm]).lt, ?_⟩, Nat.le_refl _, fun e => absurd e (by simp)⟩
  obtain rfl : i = 0 := by simpa using hi
  exact ((Bx.new W 9 [.string nm]).cell 0).trans (congrArg some hx.symm)
theorem in_more {ls acc : List (List UInt8)} {m : Nat} (h : m < ls.length) : (ls.take (m + 1)).foldl putL acc = putL ((ls.take m).foldl putL acc) ls[m] := by
  rw [List.take_succ_eq_append_getElem h, List.foldl_append]
  rfl
set_option maxHeartbeats 8000000 in
set_option maxRecDepth 100000 in
theorem rflabels_of {x : Fo} (hb : x.size ≤ 100000) (hok : OkF x) (ih : ∀ k ∈ x.kids, RLbC k) : RLbC x := by
  intro w S c hH
  obtain ⟨A, cap, rfl, hk⟩ := hH.view
  have hN3 := fkids3 x
  have HIH := Lib.hid ih
  have HALL := Lib.hid (lbA_all hok)
  have HBD := Lib.hid (fun k => Nat.le_trans (lbA_len x k) hb)
  have HKB := Lib.hid (show ∀ (k : Nat) (h : k < x.kids.length), (lbR x.kids[k]).length ≤ 100000 from fun k h => by
    have h1 := lbR_len x.kids[k]
    have h2 := sizesF_take h
    have h3 := sizesF_le (ks := x.kids) (k + 1)
    have h4 := size_sumF x
    omega)
  have hc : ((⟨x.op.toArray⟩ : ByteArray).toList == [108, 97, 98, 101, 108]) = true ∧ lb0 x = [x.nm] ∨ ((⟨x.op.toArray⟩ : ByteArray).toList == [108, 97, 98, 101, 108]) = false ∧ lb0 x = [] := by
    by_cases ho : x.op = opLab
    · exact .inl ⟨by rw [ho, ByteArray.toList_eq]; rfl, if_pos ho⟩
    · refine .inr ⟨?_, if_neg ho⟩
      rw [ByteArray.toList_eq, beq_eq_false_iff_ne]
      exact fun e => ho e
  change Calls Tryz.prog 19 #[.agg #[.string ⟨x.op.toArray⟩, .string ⟨x.nm.toArray⟩, .slice A x.kids.length cap, .int .i64 (x.pos : Int)]] w _
  obtain ⟨N, hN⟩ : ∃ N, N = x.kids.length := ⟨_, rfl⟩
  have HN := Lib.hid hN
  rw [← hN] at hN3 ⊢
  have HK := Lib.hid hk
  have HNM := Lib.hid (show strV x.nm = .string ⟨x.nm.toArray⟩ from rfl)
  clear ih hH hk hN hb hok
  generalize (⟨x.op.toArray⟩ : ByteArray) = o at *
  generalize (⟨x.nm.toArray⟩ : ByteArray) = nm at *
  generalize (x.pos : Int) = p at *
  have HS0 := Lib.hid (show SLF w (w.alloc (.cells #[.string o, .string nm, .slice A N cap, .int .i64 p] 32)) o nm p A N cap x.kids S from ⟨heap_alloc_new w _, HK.out.below ((Below.refl _ _).alloc (Nat.le_refl _) _), (Below.refl _ _).alloc (Nat.le_refl _) _⟩)
  rcases hc with ⟨g0, hl0⟩ | ⟨g0, hl0⟩
  all_goals
    have HL0 := Lib.hid hl0
    clear hl0
    go_enter Tryz.func19, Tryz.ntmps19
    go_wp2
    go_loopw [3, 4] (fun out i wr => LbRel x S w A N cap o nm p out i wr) (fun _ i _ => N - (intOf i).toNat)
    case atStart =>
      first
      | exact ⟨0, rfl, Nat.zero_le _, by rw [lbA_zero, HL0.out]; exact RL.nil _, HS0.out⟩
      | (refine ⟨0, rfl, Nat.zero_le _, ?_, HS0.out.below ((Below.refl _ _).alloc (Nat.le_refl _) _)⟩
         rw [lbA_zero, HL0.out]
         exact rl_one _ HNM.out (by simp))
    case round =>
      obtain ⟨k, rfl, hk, hrl, hsl⟩ := hrel
      have b2 := hsl.bx.cell 2
      simp only [List.getElem?_cons_zero, List.getElem?_cons_succ] at b2
      have hbl := hsl.bx.lt
      by_cases hlt : k < N
      · have c4 : decide ((k : Int) < (N : Int)) = true := by simp; omega
        have c5 : decide (k < N) = true := by simpa using hlt
        have kk : k < x.kids.length := by rw [← HN.out]; exact hlt
        obtain ⟨g, ⟨o', nm', P', l', cp', p'⟩, rfl, hg', hH', a0, a1, a2, a3⟩ := hsl.k k kk
        have H := Lib.hid (HIH.out _ (List.getElem_mem kk) wr _ _ hH')
        have HST := Lib.hid (lbA_step kk)
        have hacc := HBD.out k
        have hls := HKB.out k kk
        have HSL := Lib.hid hsl
        have HRL := Lib.hid hrl
        clear hsl hH' hrl
        generalize lbA x k = acc at *
        generalize lbR x.kids[k] = ls at *
        go_wp2_with fail
        refine (H.out).mono ?_
        rintro e w1 ⟨v5, rfl, h5, hb1⟩
        have HSL1 := Lib.hid (HSL.out.below hb1)
        have HRL1 := Lib.hid (HRL.out.below hb1)
        have HV5 := Lib.hid h5
        obtain ⟨A5, cap5, rfl, -, -, -⟩ := h5
        clear hb1 HSL HRL H a0 a1 a2 a3 b2 hbl
        obtain ⟨n5, hn5⟩ : ∃ n5, n5 = ls.length := ⟨_, rfl⟩
        have HN5 := Lib.hid hn5
        rw [← hn5] at hls HV5 ⊢
        clear hn5
        go_wp2
        go_loopw [3, 6] (fun out j wr => LbIn x S w (some ⟨g, 0, none⟩) N cap o nm p acc ls (.slice A5 n5 cap5) out j wr) (fun _ j _ => n5 - (intOf j).toNat)
        case atStart => exact ⟨0, rfl, Nat.zero_le _, HRL1.out, HV5.out, HSL1.out⟩
        case round =>
          obtain ⟨m, rfl, hm, hrl2, hv5, hsl2⟩ := hrel
          by_cases hlt2 : m < n5
          · have c6 : decide ((m : Int) < (n5 : Int)) = true := by simp; omega
            have c7 : decide (m < n5) = true := by simpa using hlt2
            have mm : m < ls.length := by rw [← HN5.out]; exact hlt2
            have HV := Lib.hid hv5
            obtain ⟨A6, cap6, e6, hr6, -, -⟩ := hv5
            injection e6 with e6a e6b e6c
            subst e6a
            obtain ⟨g6, rfl, hg6, d0⟩ := hr6 m mm
            have HMO := Lib.hid (in_more (acc := acc) mm)
            obtain ⟨t, htt⟩ : ∃ t : ByteArray, t = ⟨ls[m].toArray⟩ := ⟨_, rfl⟩
            have HT := Lib.hid (show t.data.toList = ls[m] by rw [htt])
            have d0' : wr.cell? ⟨g6, m, none⟩ = some (.string t) := by rw [htt]; exact d0
            have HPU := Lib.hid (fun (W : World) (v : Value) (hW : RL W v ((ls.take m).foldl putL acc)) => rfput_any (s := t) W hW (by have := fold_len (ls.take m) acc; rw [List.length_take] at this; omega))
            have HRL2 := Lib.hid hrl2
            have HSL2 := Lib.hid hsl2
            clear hrl2 hsl2 hr6 d0 htt e6b e6c hacc
            go_wp2_with fail
            refine (HPU.out _ _ HRL2.out).mono ?_
            rintro e w2 ⟨v7, rfl, h7, hb2⟩
            rw [HT.out, ← HMO.out] at h7
            have HRL7 := Lib.hid h7
            have HV7 := Lib.hid (HV.out.below hb2)
            have HSL7 := Lib.hid (HSL2.out.below hb2)
            clear h7 hb2
            go_wp2
            go_roundw
            case rel => exact ⟨m + 1, by go_num, by have := HN5.out; omega, HRL7.out, HV7.out, HSL7.out⟩
            case measure => simp [intOf]; omega
          · have c6 : decide ((m : Int) < (n5 : Int)) = false := by simp; omega
            have c7 : decide (m < n5) = false := by simpa using hlt2
            rw [List.take_of_length_le (by rw [← HN5.out]; omega), ← HST.out] at hrl2
            have HRL3 := Lib.hid hrl2
            have HSL3 := Lib.hid hsl2
            clear hrl2 hsl2 hv5
            go_wp2
            go_roundw
            case rel => exact ⟨k + 1, by go_num, by omega, HRL3.out, HSL3.out⟩
            case measure => simp [intOf]; omega
      · have c4 : decide ((k : Int) < (N : Int)) = false := by simp; omega
        have c5 : decide (k < N) = false := by simpa using hlt
        have HW := Lib.hid hsl.w
        rw [show k = N by omega, HN.out, HALL.out] at hrl
        have HE := Lib.hid hrl
        clear hsl hrl
        go_wp2
        go_ret
        exact ⟨_, rfl, HE.out, HW.out⟩
theorem rflabels_any : ∀ x : Fo, OkF x → x.size ≤ 100000 → RLbC x
  | .leaf _ _ _, hok, h => rflabels_of h hok (by simp [Fo.kids])
  | .un _ a _, hok, h => rflabels_of h hok (by simp only [Fo.kids, List.mem_singleton]; rintro x rfl; exact rflabels_any x hok.2 (by simp only [Fo.size] at h; omega))
  | .bin _ a b _, hok, h => rflabels_of h hok (by
      have h1 := rflabels_any a hok.2.1 (by simp only [Fo.size] at h; omega)
      have h2 := rflabels_any b hok.2.2 (by simp only [Fo.size] at h; omega)
      simp only [Fo.kids, List.mem_cons, List.not_mem_nil, or_false]
      rintro x (rfl | rfl) <;> assumption)
end Go.Proofs.YtjhicgllofjpoaaGreatDoor
