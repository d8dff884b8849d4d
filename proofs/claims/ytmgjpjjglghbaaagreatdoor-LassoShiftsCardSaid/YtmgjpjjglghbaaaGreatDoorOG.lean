/-
  Grow from nil, Concat of two, Contains; walked. Concat of two, Contains; walked.
-/
import Derived.Test.YtmgjpjjglghbaaaGreatDoorOD
import Derived.Test.YtmgjpjjglghbaaaGreatDoorOC
import Derived.Lib.AppendZeros
namespace Go.Proofs.YtmgjpjjglghbaaaGreatDoor
section
open Go.RowKit Go.Sort Go.Lib

def iv (x : Int) : Value := .int .i64 x
def CapOk (B : Option Addr) (n cap : Nat) : Prop := n ≤ cap ∧ (B = none → cap = 0)
theorem infoI : (Tryz.prog.info? 3).map (fun i => (i.zero, i.size, i.bytes)) = some (some (.int .i64 0), 1, 8) := by kernel_rfl
theorem underI : Tryz.prog.underlying 3 = some (.int .i64) := by kernel_rfl
theorem isl_news {w : World} {g o : Nat} {l : List Int} (h : ISl w (some ⟨g, o, none⟩) l) : ∀ (j : Nat) (u : Value), (l.map iv)[j]? = some u → w.cell? ((⟨g, o, none⟩ : Addr).add j) = some u := by
  intro j u hu
  rw [List.getElem?_map] at hu
  by_cases hj : j < l.length
  · rw [List.getElem?_eq_getElem hj] at hu
    injection hu with hu
    subst hu
    obtain ⟨g', o', e, hc⟩ := h j hj
    injection e with e
    injection e with e1 e2
    subst e1 e2
    have e3 : (⟨g, o, none⟩ : Addr).add j = ⟨g, o + j, none⟩ := by
      unfold Addr.add
      by_cases hj : j = 0 <;> simp [hj]
    rw [e3]; exact hc
  · rw [List.getElem?_eq_none (by omega)] at hu; cases hu
theorem iv_one (l : List Int) : ∀ u ∈ l.map iv, u.oneCell' = true := by
  intro u hu
  obtain ⟨b, _, rfl⟩ := List.mem_map.1 hu
  rfl
theorem isl_owns {w : World} {lo n : Nat} {v : Value} {l : List Int} (h : w.ownsRow lo 3 1 v n (l.map iv)) : ∃ A cap, v = .slice A n cap ∧ CapOk A n cap ∧ ISl w A l ∧ l.length = n := by
  have hl : l.length = n := by have := h.1; simpa using this
  subst hl
  rcases h.2 with ⟨rfl, hn⟩ | ⟨g, cap, cur, hv, _, hb, hc, _⟩
  · exact ⟨none, 0, by rw [hn], ⟨by omega, fun _ => rfl⟩, fun i hi => absurd hi (by omega), rfl⟩
  · subst hv
    refine ⟨_, cap, rfl, ⟨hc, fun h => by cases h⟩, fun i hi => ⟨g, 0, rfl, ?_⟩, rfl⟩
    have h1 := h.cells (g := g) rfl i (.int .i64 l[i]) (by rw [List.getElem?_map, List.getElem?_eq_getElem hi]; rfl)
    have e : (⟨g, 0, none⟩ : Addr).add i = ⟨g, i, none⟩ := by
      unfold Addr.add
      by_cases hj : i = 0 <;> simp [hj]
    rw [e] at h1
    rw [Nat.zero_add]
    exact h1
set_option maxHeartbeats 4000000 in
set_option maxRecDepth 100000 in
theorem grow_any {n : Nat} (w : World) (h1 : 1 ≤ n) (h2 : n ≤ 1000000) : Calls Tryz.prog 77 #[.slice none 0 0, .int .i64 (n : Int)] w fun e w' => ∃ v, e = .returned v ∧ w'.ownsRow w.heap.size 3 1 v 0 [] ∧ Below w.heap.size w w' := by
  obtain ⟨i0, hi0, hz⟩ := Option.map_eq_some_iff.1 infoI
  simp only [Prod.mk.injEq] at hz
  obtain ⟨hz0, hz1, hz2⟩ := hz
  have HRUN := Lib.hid (fun (W : World) (ty : TypeId) => Lib.run_append_nil_zeros (P := Tryz.prog) W 23 3 ty 3 i0 (.int .i64 0) .i64 .i64 Tryz.underlying23 underI hi0 hz0 n (by omega) (by rw [hz1]; omega) (by omega) (by rw [hz2]; omega))
  have d0 : decide ((n : Int) < 0) = false := by simp
  have d1 : decide (0 < n) = true := by simp; omega
  have HGE := Lib.hid (grownCap_ge w n 0 3)
  have HLE := Lib.hid (grownCap_le_maxLen w n 0 3 (by unfold maxLen; omega))
  have HO := Lib.hid (show ∀ cap, n ≤ cap → cap ≤ maxLen → (w.drew.alloc (.cells (Builtin.zeroCells (Value.int .i64 0).cells n ++ Builtin.zeroCells (Value.int .i64 0).cells (cap - n)) 3)).ownsRow w.heap.size 3 1 (.slice (some ⟨w.heap.size, 0, none⟩) 0 cap) 0 [] from fun cap h3 h4 => World.ownsRow_made w.drew _ cap (Nat.le_refl _) h4 (by rw [Array.size_append, size_zeroCells, size_zeroCells]; simp [Value.cells]; omega))
  clear hi0 hz0 hz1 hz2
  go_enter Tryz.func77, Tryz.ntmps77
  go_wp2_with (at_builtin; refine Lib.wpList_append_run _ rfl _ _ _ _ rfl _ _ rfl rfl _ _ (HRUN.out _ _) ?_)
  obtain ⟨gc, hgc⟩ : ∃ gc, gc = grownCap w n 0 3 := ⟨_, rfl⟩
  rw [← hgc]
  rw [← hgc] at HGE HLE
  have HOO := Lib.hid (HO.out gc HGE.out HLE.out)
  have HBB := Lib.hid (show Below w.heap.size w (w.drew.alloc (.cells (Builtin.zeroCells (Value.int .i64 0).cells n ++ Builtin.zeroCells (Value.int .i64 0).cells (gc - n)) 3)) from (Below.refl _ _).drew.alloc (Nat.le_refl _) _)
  have hle := HGE.out
  clear HO HRUN hgc
  go_wp2
  go_ret
  exact ⟨_, rfl, HOO.out, HBB.out⟩
/-- What Concat has summed, what it has laid. -/
def CsRel (n m : Nat) (w : World) (z i : Value) (wr : World) : Prop := w = wr ∧ ((i = .int .i64 0 ∧ z = .int .i64 0) ∨ (i = .int .i64 1 ∧ z = .int .i64 (n : Int)) ∨ (i = .int .i64 2 ∧ z = .int .i64 ((n + m : Nat) : Int)))
def CcRel (s l : List Int) (w : World) (v i : Value) (wr : World) : Prop := Below w.heap.size w wr ∧ ((i = .int .i64 0 ∧ wr.ownsRow w.heap.size 3 1 v 0 []) ∨ (i = .int .i64 1 ∧ wr.ownsRow w.heap.size 3 1 v s.length (s.map iv)) ∨ (i = .int .i64 2 ∧ wr.ownsRow w.heap.size 3 1 v (s.length + l.length) ((s ++ l).map iv)))
end
section
open Go.RowKit Go.Sort Go.Lib

set_option maxHeartbeats 8000000 in
set_option maxRecDepth 100000 in
theorem concat_any {A B : Option Addr} {s l : List Int} {sc lc q : Nat} (w : World) (h : WM w A B s l) (hc1 : CapOk A s.length sc) (hc2 : CapOk B l.length lc) (h1 : 1 ≤ s.length + l.length) (h2 : s.length + l.length ≤ 1000000)
    (q0 : w.cell? ⟨q, 0, none⟩ = some (.slice A s.length sc)) (q1 : w.cell? ⟨q, 1, none⟩ = some (.slice B l.length lc)) :
    Calls Tryz.prog 46 #[.slice (some ⟨q, 0, none⟩) 2 2] w fun e w' => ∃ v, e = .returned v ∧ w'.ownsRow w.heap.size 3 1 v (s.length + l.length) ((s ++ l).map iv) ∧ Below w.heap.size w w' := by
  obtain ⟨i0, hi0, hz⟩ := Option.map_eq_some_iff.1 infoI
  simp only [Prod.mk.injEq] at hz
  obtain ⟨hz0, hz1, hz2⟩ := hz
  have HI := Lib.hid hi0
  have HZ0 := Lib.hid hz0
  have HZ1 := Lib.hid hz1
  have HZ2 := Lib.hid hz2
  have HG := Lib.hid (grow_any w h1 h2)
  have HQ := Lib.hid (show ∀ W, Below w.heap.size w W → W.cell? ⟨q, 0, none⟩ = some (.slice A s.length sc) ∧ W.cell? ⟨q, 1, none⟩ = some (.slice B l.length lc) from fun W hb => ⟨cell_blw hb q0, cell_blw hb q1⟩)
  have HS := Lib.hid h.st
  have HL := Lib.hid h.lp
  have HC1 := Lib.hid hc1
  have HC2 := Lib.hid hc2
  obtain ⟨n, hn⟩ : ∃ n, n = s.length := ⟨_, rfl⟩
  obtain ⟨m, hm⟩ : ∃ m, m = l.length := ⟨_, rfl⟩
  have HN := Lib.hid hn
  have HM := Lib.hid hm
  have HSN := Lib.hid (show (s.map iv).length = n * 1 by rw [hn]; simp)
  have HSL := Lib.hid (show (l.map iv).length = m * 1 by rw [hm]; simp)
  have HA1 := Lib.hid (show ([] : List Value) ++ s.map iv = s.map iv from rfl)
  have HA2 := Lib.hid (show s.map iv ++ l.map iv = (s ++ l).map iv from (List.map_append).symm)
  have HREL := Lib.hid (show ∀ (v i : Value) (wr : World), CcRel s l w v i wr ↔ (Below w.heap.size w wr ∧ ((i = .int .i64 0 ∧ wr.ownsRow w.heap.size 3 1 v 0 []) ∨ (i = .int .i64 1 ∧ wr.ownsRow w.heap.size 3 1 v n (s.map iv)) ∨ (i = .int .i64 2 ∧ wr.ownsRow w.heap.size 3 1 v (n + m) ((s ++ l).map iv)))) from fun v i wr => by rw [hn, hm]; exact Iff.rfl)
  have HSW : ∀ (ad : Addr), A = some ad → ∀ W, Below w.heap.size w W → ∀ (j : Nat) (u : Value), (s.map iv)[j]? = some u → W.cell? (ad.add j) = some u := fun ad hA W hb j u hu => by
    by_cases hj : 0 < s.length
    · obtain ⟨g, o, e, _⟩ := h.st 0 hj
      rw [hA] at e
      injection e with e
      subst e
      exact isl_news (by rw [← hA]; exact h.st.below hb) j u hu
    · rw [List.eq_nil_of_length_eq_zero (show s.length = 0 by omega)] at hu
      cases hu
  have HLW : ∀ (ad : Addr), B = some ad → ∀ W, Below w.heap.size w W → ∀ (j : Nat) (u : Value), (l.map iv)[j]? = some u → W.cell? (ad.add j) = some u := fun ad hA W hb j u hu => by
    by_cases hj : 0 < l.length
    · obtain ⟨g, o, e, _⟩ := h.lp 0 hj
      rw [hA] at e
      injection e with e
      subst e
      exact isl_news (by rw [← hA]; exact h.lp.below hb) j u hu
    · rw [List.eq_nil_of_length_eq_zero (show l.length = 0 by omega)] at hu
      cases hu
  replace HSW := Lib.hid HSW
  replace HLW := Lib.hid HLW
  rw [← hn, ← hm] at h1 h2 HG HQ ⊢
  rw [← hn] at q0
  rw [← hm] at q1
  rw [← hn] at HC1
  rw [← hm] at HC2
  rw [Int.natCast_add] at HG
  clear h hc1 hc2 hn hm hi0 hz0 hz1 hz2
  go_enter Tryz.func46, Tryz.ntmps46
  go_wp2_with fail
  go_loopw [3, 11] (fun z i wr => CsRel n m w z i wr) (fun _ i _ => 2 - (intOf i).toNat)
  case atStart => exact ⟨rfl, .inl ⟨rfl, rfl⟩⟩
  case round =>
    obtain ⟨rfl, hrel⟩ := hrel
    rcases hrel with ⟨rfl, rfl⟩ | ⟨rfl, rfl⟩ | ⟨rfl, rfl⟩
    · go_wp2_with fail
      go_roundw
      case rel => exact ⟨rfl, .inr (.inl ⟨rfl, by go_num⟩)⟩
      case measure => simp [intOf]
    · have e0 : decide ((n : Int) + (m : Int) < 0) = false := by simp; omega
      go_wp2_with fail
      go_roundw
      case rel => exact ⟨rfl, .inr (.inr ⟨rfl, by go_num⟩)⟩
      case measure => simp [intOf]
    · go_wp2_with fail
      with_reducible refine (HG.out).mono ?_
      rintro e w1 ⟨v, rfl, hO, hb⟩
      have HO1 := Lib.hid hO
      have HB1 := Lib.hid hb
      clear hO hb q0 q1
      go_wp2
      go_loopw [6, 27] (fun v i wr => CcRel s l w v i wr) (fun _ i _ => 2 - (intOf i).toNat)
      case atStart => exact (HREL.out _ _ _).2 ⟨HB1.out, .inl ⟨rfl, HO1.out⟩⟩
      case round =>
        obtain ⟨hb, hrel⟩ := (HREL.out _ _ _).1 hrel
        have HB := Lib.hid hb
        obtain ⟨q0, q1⟩ := HQ.out _ hb
        rcases hrel with ⟨rfl, ho⟩ | ⟨rfl, ho⟩ | ⟨rfl, ho⟩
        · have HO := Lib.hid ho
          clear ho hb
          cases hA : A with
          | none =>
            subst hA
            have hcz := HC1.out.2 rfl
            have hnz := HC1.out.1
            rw [hcz] at q0 hnz
            have hnz2 : n = 0 := by omega
            rw [hnz2] at q0
            have HNZ := Lib.hid hnz2
            clear hcz hnz hnz2
            go_wp2_with (at_builtin; refine wpList_append_own_none rfl _ _ 23 rfl w.heap.size 3 i0 1 Tryz.underlying23 HI.out _ _ _ rfl HO.out rfl ?_)
            go_roundw
            case rel => exact (HREL.out _ _ _).2 ⟨HB.out, .inr (.inl ⟨rfl, by rw [HNZ.out, show s = [] from List.eq_nil_of_length_eq_zero (HN.out.symm.trans HNZ.out)]; exact HO.out⟩)⟩
            case measure => simp [intOf]
          | some ad =>
            subst hA
            go_wp2_with (at_builtin; refine wpList_append_own _ rfl _ _ 23 rfl w.heap.size 3 i0 (.int .i64 0) 1 8 Tryz.underlying23 HI.out HZ0.out HZ1.out HZ2.out rfl (by decide) _ _ _ rfl HO.out ad n _ (s.map iv) rfl HSN.out (HSW.out ad rfl _ HB.out) (iv_one _) (by unfold maxLen; omega) (by omega) (by have := HB.out.size; omega) ?_)
            intro v' w2 hown hgrow hnil
            have HO2 := Lib.hid hown
            have HB2 := Lib.hid (HB.out.grown hgrow HB.out.size (by intro k hk; exact (HO.out.lt k hk).1))
            clear hown hgrow hnil
            go_wp2
            go_roundw
            case rel => exact (HREL.out _ _ _).2 ⟨HB2.out, .inr (.inl ⟨rfl, by simpa using HO2.out⟩)⟩
            case measure => simp [intOf]
        · have HO := Lib.hid ho
          clear ho hb
          cases hA : B with
          | none =>
            subst hA
            have hcz := HC2.out.2 rfl
            have hnz := HC2.out.1
            rw [hcz] at q1 hnz
            have hnz2 : m = 0 := by omega
            rw [hnz2] at q1
            have HNZ := Lib.hid hnz2
            clear hcz hnz hnz2
            go_wp2_with (at_builtin; refine wpList_append_own_none rfl _ _ 23 rfl w.heap.size 3 i0 1 Tryz.underlying23 HI.out _ _ _ rfl HO.out rfl ?_)
            go_roundw
            case rel => exact (HREL.out _ _ _).2 ⟨HB.out, .inr (.inr ⟨rfl, by rw [HNZ.out, show l = [] from List.eq_nil_of_length_eq_zero (HM.out.symm.trans HNZ.out), List.append_nil]; exact HO.out⟩)⟩
            case measure => simp [intOf]
          | some ad =>
            subst hA
            go_wp2_with (at_builtin; refine wpList_append_own _ rfl _ _ 23 rfl w.heap.size 3 i0 (.int .i64 0) 1 8 Tryz.underlying23 HI.out HZ0.out HZ1.out HZ2.out rfl (by decide) _ _ _ rfl HO.out ad m _ (l.map iv) rfl HSL.out (HLW.out ad rfl _ HB.out) (iv_one _) (by unfold maxLen; omega) (by omega) (by have := HB.out.size; omega) ?_)
            intro v' w2 hown hgrow hnil
            have HO2 := Lib.hid hown
            have HB2 := Lib.hid (HB.out.grown hgrow HB.out.size (by intro k hk; exact (HO.out.lt k hk).1))
            clear hown hgrow hnil
            go_wp2
            go_roundw
            case rel => exact (HREL.out _ _ _).2 ⟨HB2.out, .inr (.inr ⟨rfl, by first | exact HO2.out | (have := HO2.out; rw [HA2.out] at this; exact this)⟩)⟩
            case measure => simp [intOf]
        · have HO := Lib.hid ho
          clear ho hb
          go_wp2_with fail
          go_ret
          exact ⟨_, rfl, HO.out, HB.out⟩
open Classical in
theorem contains_any {A : Option Addr} {l : List ByteArray} {cap : Nat} (x : ByteArray) (w : World) (hl : SSl w A l) (hlen : l.length ≤ 1000000) :
    Calls Tryz.prog 45 #[.slice A l.length cap, .string x] w fun e w' => e = .returned (.bool (decide (x ∈ l))) ∧ w' = w := by
  have H := Lib.hid (index_any (cap := cap) x w hl hlen)
  generalize l.length = n at *
  by_cases hx : x ∈ l
  · rw [if_pos hx] at H
    rw [decide_eq_true hx]
    clear hx hl
    go_enter Tryz.func45, Tryz.ntmps45
    go_wp2_with fail
    refine (H.out).mono ?_
    rintro e w1 ⟨rfl, rfl⟩
    go_wp2
    go_ret
    exact ⟨ret_bool (by simp), rfl⟩
  · rw [if_neg hx] at H
    rw [decide_eq_false hx]
    clear hx hl
    go_enter Tryz.func45, Tryz.ntmps45
    go_wp2_with fail
    refine (H.out).mono ?_
    rintro e w1 ⟨rfl, rfl⟩
    go_wp2
    go_ret
    exact ⟨rfl, rfl⟩
end
end Go.Proofs.YtmgjpjjglghbaaaGreatDoor
