/-
  Letter, walked. Holds, walked. Clone of numbers, Shift; walked.
-/
import Derived.Test.YtmgjpjjglghbaaaGreatDoorOD
import Derived.BigQuiet
import Derived.Test.YtmgjpjjglghbaaaGreatDoorOH
import Derived.Test.YtmgjpjjglghbaaaGreatDoorOG
import Derived.Deep.RegionHeld3
import Derived.Test.YtmgjpjjglghbaaaGreatDoorJC
namespace Go.Proofs.YtmgjpjjglghbaaaGreatDoor
section
open Go.RowKit

/-- The i-th letter, if there is one. -/
def ltO (s l : List Int) (i : Int) : Int × Bool := if i < 0 then (0, false) else (wl s l i.toNat, decide (i.toNat < s.length ∨ l ≠ []))
def LtP (s l : List Int) (i : Int) (w : World) (e : Ending) (w' : World) : Prop := e = .returned (.tuple #[.int .i64 (ltO s l i).1, .bool (ltO s l i).2]) ∧ Below w.heap.size w w'
theorem lt_neg {s l : List Int} {i : Int} (h : i < 0) : ltO s l i = (0, false) := by rw [ltO, if_pos h]
theorem lt_stem {s l : List Int} {k : Nat} (h : k < s.length) : ltO s l (k : Int) = (s[k], true) := by
  rw [ltO, if_neg (by omega), Int.toNat_natCast, decide_eq_true (.inl h), wl, if_pos h, List.getD_eq_getElem?_getD, List.getElem?_eq_getElem h]; rfl
theorem lt_none {s : List Int} {k : Nat} (h : s.length ≤ k) : ltO s [] (k : Int) = (0, false) := by
  rw [ltO, if_neg (by omega), Int.toNat_natCast, decide_eq_false (by rintro (h1 | h1); omega; exact h1 rfl), wl, if_neg (by omega)]; rfl
theorem lt_loop {s l : List Int} {d : Nat} (h : d % l.length < l.length) : ltO s l ((s.length + d : Nat) : Int) = (l[d % l.length], true) := by
  have hl : l ≠ [] := by rintro rfl; simp at h
  rw [ltO, if_neg (by omega), Int.toNat_natCast, decide_eq_true (.inr hl), wl, if_neg (by omega), Nat.add_sub_cancel_left, List.getD_eq_getElem?_getD, List.getElem?_eq_getElem h]; rfl
set_option maxHeartbeats 4000000 in
theorem letter_any {A B : Option Addr} {s l : List Int} {sc lc : Nat} (i : Int) (w : World) (h : WM w A B s l) (h1 : s.length ≤ 1000000) (h2 : l.length ≤ 1000000) (hi : -9223372036854775808 ≤ i ∧ i ≤ 9223372036854775807) : Calls Tryz.prog 24 #[lav A s.length sc B l.length lc, .int .i64 i] w (LtP s l i w) := by
  by_cases h0 : i < 0
  · have HE := Lib.hid (lt_neg (s := s) (l := l) h0)
    have d0 : decide (i < 0) = true := by simpa using h0
    unfold LtP
    rw [HE.out]
    generalize s.length = n at *
    generalize l.length = m at *
    clear h h0
    show Calls Tryz.prog 24 #[.agg #[.slice A n sc, .slice B m lc], .int .i64 i] w _
    go_enter Tryz.func24, Tryz.ntmps24
    go_wp2
    go_ret2
    exact ⟨rfl, below_alloc _ _⟩
  · obtain ⟨k, rfl⟩ := Int.eq_ofNat_of_zero_le (show 0 ≤ i by omega)
    by_cases hk : k < s.length
    · have HE := Lib.hid (lt_stem (l := l) hk)
      unfold LtP
      rw [HE.out]
      have c1 := (h.st.below (below_alloc w (.cells #[.slice A s.length sc, .slice B l.length lc] 42))) k hk
      obtain ⟨g, o, hA, c1⟩ := c1
      generalize s[k] = c at *
      obtain ⟨n, hn⟩ : ∃ n, n = s.length := ⟨_, rfl⟩
      rw [← hn] at hk h1 c1 ⊢
      have d1 : decide (k < n) = true := by simp; omega
      generalize l.length = m at *
      subst hA
      clear h h0 HE hn
      show Calls Tryz.prog 24 #[.agg #[.slice (some ⟨g, o, none⟩) n sc, .slice B m lc], .int .i64 (k : Int)] w _
      go_enter Tryz.func24, Tryz.ntmps24
      go_wp2
      go_ret2
      exact ⟨rfl, below_alloc _ _⟩
    · cases hl : l with
      | nil =>
        have HE := Lib.hid (lt_none (s := s) (k := k) (by omega))
        unfold LtP
        rw [HE.out]
        have d1 : decide (k < s.length) = false := by simp; omega
        generalize s.length = n at *
        clear h h0 HE hl h2
        show Calls Tryz.prog 24 #[.agg #[.slice A n sc, .slice B 0 lc], .int .i64 (k : Int)] w _
        go_enter Tryz.func24, Tryz.ntmps24
        go_wp2
        go_ret2
        exact ⟨rfl, below_alloc _ _⟩
      | cons x r =>
        rw [← hl]
        have hm : 0 < l.length := by rw [hl]; simp
        obtain ⟨d, rfl⟩ : ∃ d, k = s.length + d := ⟨k - s.length, by omega⟩
        have hd := Nat.mod_lt d hm
        have HE := Lib.hid (lt_loop (s := s) hd)
        unfold LtP
        rw [HE.out]
        have c1 := (h.lp.below (below_alloc w (.cells #[.slice A s.length sc, .slice B l.length lc] 42))) _ hd
        obtain ⟨g, o, hA, c1⟩ := c1
        generalize l[d % l.length] = c at *
        have hj : Int.tmod (d : Int) (l.length : Int) = ((d % l.length : Nat) : Int) := rfl
        obtain ⟨j, hjj⟩ : ∃ j, j = d % l.length := ⟨_, rfl⟩
        rw [← hjj] at hd c1 hj
        obtain ⟨m, hmm⟩ : ∃ m, m = l.length := ⟨_, rfl⟩
        rw [← hmm] at hm hd h2 c1 hj ⊢
        generalize s.length = n at *
        subst hA
        have d1 : decide (n + d < n) = false := by simp
        have d2 : decide ((m : Int) = 0) = false := by simp; omega
        have d3 : ((m : Int) == 0) = false := by simp; omega
        have hs : ((n + d : Nat) : Int) - (n : Int) = (d : Int) := by omega
        have hm0 : (m : Int) ≠ 0 := by omega
        have hw : IntKind.i64.wrap ((n : Int) + (d : Int) - (n : Int)) = (d : Int) := by rw [IntKind.wrap_i64]; omega
        have hwj : IntKind.i64.wrap (j : Int) = (j : Int) := by rw [IntKind.wrap_i64]; omega
        have k0 : (0 : Int) ≤ (j : Int) := by omega
        have k1 : (j : Int) < (m : Int) := by omega
        clear h HE hl hjj hmm
        show Calls Tryz.prog 24 #[.agg #[.slice A n sc, .slice (some ⟨g, o, none⟩) m lc], .int .i64 ((n + d : Nat) : Int)] w _
        go_enter Tryz.func24, Tryz.ntmps24
        go_wp2_with fail
        go_quiet (fail)
        go_wp2
        go_ret2
        exact ⟨rfl, below_drewN (below_alloc _ _) _⟩
end
section
open Go.RowKit Go.Sort Go.Maps

/-- What Holds tells. -/
noncomputable def hoV (nms : List ByteArray) (s l : List Int) (x : Fo) : Bool := @decide (wR nms s l ∧ hv nms (wl s l) x = true) (Classical.propDecidable _)
def HoP (nms : List ByteArray) (s l : List Int) (x : Fo) (w : World) (e : Ending) (w' : World) : Prop := e = .returned (.tuple #[.bool (hoV nms s l x), tuE nms s l x]) ∧ Below w.heap.size w w'
theorem ho_yes {nms : List ByteArray} {s l : List Int} {x : Fo} (hr : wR nms s l) (hd : hdO nms x = true) (ho : OkF x) : (trO (s.length + l.length) s.length (labO nms (s ++ l)) x).getD 0 false = hoV nms s l x := by
  have hl := List.length_pos_iff.2 hr.2.2.1
  have hp : ∀ nm, Per s.length (s.length + l.length - s.length) (LN nms (wl s l) nm) := fun nm => by rw [Nat.add_sub_cancel_left]; exact ln_per nm
  have h := tells_sem (n := s.length + l.length) (a := s.length) (lab := labO nms (s ++ l)) (by omega) hp x ho (fun nm hn => by
    refine ⟨by simp [labO, lbL], fun i hi => ?_⟩
    have hi' : i < (s ++ l).length := by rw [List.length_append]; exact hi
    rw [labO, lbL, List.getD_eq_getElem?_getD, List.getElem?_map, List.getElem?_eq_getElem hi', Option.map_some, Option.getD_some, LN, ← wl_app i hi, List.getD_eq_getElem?_getD, List.getElem?_eq_getElem hi']
    rfl)
  have h0 := h.2 0 (by omega)
  rw [Bool.eq_iff_iff, h0, hoV]
  rw [@decide_eq_true_iff _ (Classical.propDecidable _), hv_iff]
  exact ⟨fun h => ⟨hr, hd, h⟩, fun h => h.2.2⟩
theorem ho_no {nms : List ByteArray} {s l : List Int} {x : Fo} (h : ¬ (wR nms s l ∧ hdO nms x = true)) : hoV nms s l x = false := by
  unfold hoV
  exact @decide_eq_false _ (Classical.propDecidable _) fun h1 => h ⟨h1.1, (hv_iff.1 h1.2).1⟩
theorem tu_nil {nms : List ByteArray} {s l : List Int} {x : Fo} (hr : wR nms s l) (hd : hdO nms x = true) : tuE nms s l x = .nilIface := by rw [tuE, if_pos hr, if_pos hd]
theorem tu_not {nms : List ByteArray} {s l : List Int} {x : Fo} (h : ¬ (wR nms s l ∧ hdO nms x = true)) : ∃ k : Int, k ≠ 0 ∧ tuE nms s l x = .iface 78 (.int .i64 k) := by
  unfold tuE
  by_cases hr : wR nms s l
  · rw [if_pos hr, if_neg (fun hd => h ⟨hr, hd⟩)]; exact ⟨30, by omega, rfl⟩
  · rw [if_neg hr]; exact ⟨1, by omega, rfl⟩
set_option maxHeartbeats 4000000 in
theorem holds_any {N A B : Option Addr} {nms : List ByteArray} {s l : List Int} {nc sc lc : Nat} {x : Fo} {v : FV} {S : Nat → Prop} (w : World) (hN : SSl w N nms) (h : WM w A B s l) (hc1 : CapOk A s.length sc) (hc2 : CapOk B l.length lc) (h0 : nms.length ≤ 1000000) (h1 : s.length ≤ 1000000) (h2 : l.length ≤ 1000000) (hx : FS w 27 S x v.c) (ho : OkF x) (hz : x.size ≤ 4096) :
    Calls Tryz.prog 20 #[.agg #[.string v.o, .string v.nm, .slice v.A v.ll v.cap, .int .i64 v.p], .slice N nms.length nc, lav A s.length sc B l.length lc] w (HoP nms s l x w) := by
  have HB0 := Lib.hid (show Below w.heap.size w ((w.alloc (.cells #[.string v.o, .string v.nm, .slice v.A v.ll v.cap, .int .i64 v.p] 27)).alloc (.cells #[.slice A s.length sc, .slice B l.length lc] 42)) from below_t (below_alloc _ _) (below_alloc _ _))
  have HT := Lib.hid (fun (W : World) (hb : Below w.heap.size w W) => truths_any (nc := nc) (sc := sc) (lc := lc) W (hN.below hb) (h.below hb) hc1 hc2 h0 h1 h2 (hx.below hb) ho hz)
  have HYES := Lib.hid (fun (hr : wR nms s l) (hd : hdO nms x = true) => ho_yes hr hd ho)
  have HPOS := Lib.hid (fun (hr : wR nms s l) => List.length_pos_iff.2 hr.2.2.1)
  show Calls Tryz.prog 20 #[.agg #[.string v.o, .string v.nm, .slice v.A v.ll v.cap, .int .i64 v.p], .slice N nms.length nc, .agg #[.slice A s.length sc, .slice B l.length lc]] w _
  generalize nms.length = nl at *
  clear hN h hc1 hc2 h0 h1 h2 hx ho hz
  go_enter Tryz.func20, Tryz.ntmps20
  go_wp2_with fail
  refine (HT.out _ HB0.out).mono ?_
  rintro e w1 ⟨A1, m1, d1, rfl, hy, hn, hb1⟩
  have HB1 := Lib.hid (below_t HB0.out hb1)
  clear hb1 HT
  by_cases hc : wR nms s l ∧ hdO nms x = true
  · obtain ⟨rfl, hd, hB, hl⟩ := hy hc.1 hc.2
    have hpos := HPOS.out hc.1
    obtain ⟨g, o, rfl, c0⟩ := hB 0 (by rw [hl]; omega)
    rw [bget (by rw [hl]; omega), HYES.out hc.1 hc.2, Nat.add_zero] at c0
    rw [tu_nil hc.1 hc.2]
    have HTU := Lib.hid (tu_nil hc.1 hc.2)
    obtain ⟨b, hbb⟩ : ∃ b, b = hoV nms s l x := ⟨_, rfl⟩
    rw [← hbb] at c0
    have HBB := Lib.hid hbb
    clear hbb
    have k1 : (0 : Int) < ((s.length + l.length : Nat) : Int) := by omega
    have k2 : (0 : Int) < (s.length : Int) + (l.length : Int) := by omega
    have k3 : 0 < s.length + l.length := by omega
    clear hy hn hc hB hl hd HYES
    go_wp2_with fail
    go_ret2
    exact ⟨by rw [HTU.out, ← HBB.out]; rfl, HB1.out⟩
  · obtain ⟨k, hk, hE⟩ := tu_not hc
    obtain rfl := hn hc
    rw [hE]
    have HE := Lib.hid hE
    have HV := Lib.hid (ho_no hc)
    clear hy hn hc HYES hE
    go_wp2_with fail
    go_ret2
    exact ⟨by rw [HE.out, HV.out]; rfl, HB1.out⟩
end
section
open Go.RowKit Go.Sort Go.Lib

theorem clonei_any {A : Option Addr} {l : List Int} {cap n : Nat} (w : World) (h : ISl w A l) (hn : l.length = n) (hc : CapOk A n cap) (hlen : n ≤ 1000000) :
    Calls Tryz.prog 51 #[.slice A n cap] w fun e w' => ∃ v, e = .returned v ∧ w'.ownsRow w.heap.size 3 1 v n (l.map iv) ∧ Below w.heap.size w w' := by
  subst hn
  cases A with
  | none =>
    have h1 := hc.2 rfl
    have h2 := hc.1
    have hl : l = [] := List.eq_nil_of_length_eq_zero (by omega)
    subst hl h1
    refine (Tryz.slices_Clone_int_nil 0 0 w).mono ?_
    rintro e w1 ⟨rfl, rfl⟩
    exact ⟨_, rfl, World.ownsRow_nil _ _ _ _, Below.refl _ _⟩
  | some ad =>
    by_cases h0 : l.length = 0
    · have hl : l = [] := List.eq_nil_of_length_eq_zero h0
      subst hl
      refine (Tryz.slices_Clone_int_zero ad cap w).mono ?_
      rintro e w1 ⟨v, rfl, ho, _, hb⟩
      exact ⟨v, rfl, ho, hb⟩
    · obtain ⟨g, o, hA, _⟩ := h 0 (by omega)
      injection hA with hA
      subst hA
      refine (Tryz.slices_Clone_int g o l.length cap l w (Nat.le_refl _) (by omega) (fun j hj => by
        obtain ⟨g', o', e, hc⟩ := h j hj
        injection e with e
        injection e with e1 e2
        subst e1 e2
        rw [hc, List.getD_eq_getElem?_getD, List.getElem?_eq_getElem hj]; rfl)).mono ?_
      rintro e w1 ⟨v, rfl, ho, _, hb⟩
      rw [List.take_of_length_le (Nat.le_refl _)] at ho
      exact ⟨v, rfl, ho, hb⟩
/-- What a call leaves that makes a word. -/
def LaP (s l : List Int) (w : World) (e : Ending) (w' : World) : Prop := ∃ A n sc B m lc, e = .returned (.agg #[.slice A n sc, .slice B m lc]) ∧ s.length = n ∧ l.length = m ∧ WM w' A B s l ∧ CapOk A n sc ∧ CapOk B m lc ∧ Below w.heap.size w w'
theorem la_set {W : World} {q : Nat} {t : TypeId} {z0 z1 u0 u1 : Value} (h : Bx W q t [z0, z1]) : Bx ((W.setCell ⟨q, 0, none⟩ u0).setCell ⟨q, 1, none⟩ u1) q t [u0, u1] := (h.set 0 u0).set 1 u1
theorem isl_set2 {W : World} {q : Nat} {P : Option Addr} {l : List Int} {u0 u1 : Value} (h : ISl W P l) (hq : ∀ g o, P = some ⟨g, o, none⟩ → q ≠ g) : ISl ((W.setCell ⟨q, 0, none⟩ u0).setCell ⟨q, 1, none⟩ u1) P l := fun i hi => by
  obtain ⟨g, o, h1, h2⟩ := h i hi
  have hne := hq g o h1
  refine ⟨g, o, h1, ?_⟩
  rw [World.cell?_setCell_other _ _ _ _ (by first | (simp; done) | (simp; omega)), World.cell?_setCell_other _ _ _ _ (by first | (simp; done) | (simp; omega))]
  exact h2
theorem cell_set2 {W : World} {p i q : Nat} {u v0 v1 : Value} (h : W.cell? ⟨p, i, none⟩ = some u) (hp : p ≠ q) : ((W.setCell ⟨q, 0, none⟩ v0).setCell ⟨q, 1, none⟩ v1).cell? ⟨p, i, none⟩ = some u := by
  rw [World.cell?_setCell_other _ _ _ _ (by first | (simp; done) | (simp; omega)), World.cell?_setCell_other _ _ _ _ (by first | (simp; done) | (simp; omega))]
  exact h
theorem below_set2 {B : Nat} {a W : World} {q : Nat} {u0 u1 : Value} (h : Below B a W) (hq : B ≤ q) : Below B a ((W.setCell ⟨q, 0, none⟩ u0).setCell ⟨q, 1, none⟩ u1) := (h.setCell (p := ⟨q, 0, none⟩) hq _).setCell (p := ⟨q, 1, none⟩) hq _
/-- A row of one's own lies behind what was there. -/
theorem own_far {w : World} {lo n : Nat} {P : Option Addr} {pc : Nat} {cs : List Value} (h : w.ownsRow lo 3 1 (.slice P n pc) n cs) : ∀ g o, P = some ⟨g, o, none⟩ → lo ≤ g := fun g o e => (h.lt g (by rw [e]; rfl)).1
set_option maxHeartbeats 8000000 in
theorem shift_both {A B : Option Addr} {sc lc : Nat} (w : World) : Calls Tryz.prog 23 #[.agg #[.slice A 0 sc, .slice B 0 lc]] w (LaP [] [] w) := by
  have hb := below_t (below_alloc w (.cells #[.slice A 0 sc, .slice B 0 lc] 42)) (below_alloc _ (.cells #[.slice none 0 0, .slice none 0 0] 42))
  have hx := Bx.new (w.alloc (.cells #[.slice A 0 sc, .slice B 0 lc] 42)) 42 [.slice none 0 0, .slice none 0 0]
  rw [show (w.alloc (.cells #[.slice A 0 sc, .slice B 0 lc] 42)).heap.size = w.heap.size + 1 by simp] at hx
  have y0 := hx.cell 0
  have y1 := hx.cell 1
  simp only [List.getElem?_cons_zero, List.getElem?_cons_succ] at y0 y1
  have HB := Lib.hid hb
  clear hx hb
  go_enter Tryz.func23, Tryz.ntmps23
  go_wp2
  refine bodyPost_ret (v := .agg #[.slice none 0 0, .slice none 0 0]) (by simp [results, Tryz.results23, go_sem]) rfl ⟨none, 0, 0, none, 0, 0, rfl, rfl, rfl, ⟨fun i hi => absurd hi (by simp), fun i hi => absurd hi (by simp)⟩, ⟨Nat.le_refl _, fun _ => rfl⟩, ⟨Nat.le_refl _, fun _ => rfl⟩, HB.out⟩
set_option maxHeartbeats 8000000 in
set_option maxRecDepth 100000 in
theorem shift_stem {B : Option Addr} {g o cm m lc k : Nat} {x : Int} {r l : List Int} (w : World) (h : ISl w (some ⟨g, o, none⟩) (x :: r)) (hl : ISl w B l) (hk : l.length = k) (hc2 : CapOk B k lc) (hk6 : k ≤ 1000000) (hm : r.length = m) (hcm : m ≤ cm) (hm6 : m + 1 ≤ 1000000) (hc0 : cm ≠ 0) :
    Calls Tryz.prog 23 #[.agg #[.slice (some ⟨g, o, none⟩) (m + 1) (cm + 1), .slice B k lc]] w (LaP r l w) := by
  have hbw : Below w.heap.size w ((w.alloc (.cells #[.slice (some ⟨g, o, none⟩) (m + 1) (cm + 1), .slice B k lc] 42)).alloc (.cells #[.slice none 0 0, .slice none 0 0] 42)) := below_t (below_alloc _ _) (below_alloc _ _)
  have HT : ∀ W, Below ((w.alloc (.cells #[.slice (some ⟨g, o, none⟩) (m + 1) (cm + 1), .slice B k lc] 42)).alloc (.cells #[.slice none 0 0, .slice none 0 0] 42)).heap.size ((w.alloc (.cells #[.slice (some ⟨g, o, none⟩) (m + 1) (cm + 1), .slice B k lc] 42)).alloc (.cells #[.slice none 0 0, .slice none 0 0] 42)) W → ISl W (some ⟨g, o + 1, none⟩) r := fun W hW i hi => by
    obtain ⟨g', o2, e, hc⟩ := h.below (below_t hbw hW) (i + 1) (by simp; omega)
    injection e with e
    injection e with e1 e2
    subst e1 e2
    refine ⟨g, o + 1, rfl, ?_⟩
    rw [show o + 1 + i = o + (i + 1) by omega, hc]
    simp
  have HC1 := Lib.hid (fun (W : World) (hW : Below ((w.alloc (.cells #[.slice (some ⟨g, o, none⟩) (m + 1) (cm + 1), .slice B k lc] 42)).alloc (.cells #[.slice none 0 0, .slice none 0 0] 42)).heap.size ((w.alloc (.cells #[.slice (some ⟨g, o, none⟩) (m + 1) (cm + 1), .slice B k lc] 42)).alloc (.cells #[.slice none 0 0, .slice none 0 0] 42)) W) => clonei_any (n := m) (cap := cm) W (HT W hW) hm ⟨hcm, fun h => by cases h⟩ (by omega))
  have HC2 := Lib.hid (fun (W : World) (hW : Below ((w.alloc (.cells #[.slice (some ⟨g, o, none⟩) (m + 1) (cm + 1), .slice B k lc] 42)).alloc (.cells #[.slice none 0 0, .slice none 0 0] 42)).heap.size ((w.alloc (.cells #[.slice (some ⟨g, o, none⟩) (m + 1) (cm + 1), .slice B k lc] 42)).alloc (.cells #[.slice none 0 0, .slice none 0 0] 42)) W) => clonei_any (cap := lc) W (hl.below (below_t hbw hW)) hk hc2 hk6)
  have HBX := Lib.hid (show ∀ W, Below ((w.alloc (.cells #[.slice (some ⟨g, o, none⟩) (m + 1) (cm + 1), .slice B k lc] 42)).alloc (.cells #[.slice none 0 0, .slice none 0 0] 42)).heap.size ((w.alloc (.cells #[.slice (some ⟨g, o, none⟩) (m + 1) (cm + 1), .slice B k lc] 42)).alloc (.cells #[.slice none 0 0, .slice none 0 0] 42)) W → ((fun w' : World => w'.cell? ⟨w.heap.size, 0, none⟩ = some (.slice (some ⟨g, o, none⟩) (m + 1) (cm + 1)) ∧ w'.cell? ⟨w.heap.size, 1, none⟩ = some (.slice B k lc)) W) ∧ Bx W (w.heap.size + 1) 42 [.slice none 0 0, .slice none 0 0] from fun W hW => by
    have h1 := ((Bx.new w 42 [.slice (some ⟨g, o, none⟩) (m + 1) (cm + 1), .slice B k lc]).below (below_alloc _ (.cells #[.slice none 0 0, .slice none 0 0] 42))).below hW
    have h2 := (Bx.new (w.alloc (.cells #[.slice (some ⟨g, o, none⟩) (m + 1) (cm + 1), .slice B k lc] 42)) 42 [.slice none 0 0, .slice none 0 0]).below hW
    rw [show (w.alloc (.cells #[.slice (some ⟨g, o, none⟩) (m + 1) (cm + 1), .slice B k lc] 42)).heap.size = w.heap.size + 1 by simp] at h2
    exact ⟨⟨h1.cell 0, h1.cell 1⟩, h2⟩)
  have HBW := Lib.hid hbw
  have HK := Lib.hid hk
  have HMM := Lib.hid hm
  have lk : Below ((w.alloc (.cells #[.slice (some ⟨g, o, none⟩) (m + 1) (cm + 1), .slice B k lc] 42)).alloc (.cells #[.slice none 0 0, .slice none 0 0] 42)).heap.size ((w.alloc (.cells #[.slice (some ⟨g, o, none⟩) (m + 1) (cm + 1), .slice B k lc] 42)).alloc (.cells #[.slice none 0 0, .slice none 0 0] 42)) ((w.alloc (.cells #[.slice (some ⟨g, o, none⟩) (m + 1) (cm + 1), .slice B k lc] 42)).alloc (.cells #[.slice none 0 0, .slice none 0 0] 42)).drew := (Below.refl _ _).drew
  have hz0 : ((w.alloc (.cells #[.slice (some ⟨g, o, none⟩) (m + 1) (cm + 1), .slice B k lc] 42)).alloc (.cells #[.slice none 0 0, .slice none 0 0] 42)).heap.size = w.heap.size + 2 := by simp
  have k2 : (1 : Int) ≤ (m : Int) + 1 := by omega
  clear h hl hk hc2 hm hbw HT
  go_enter Tryz.func23, Tryz.ntmps23
  go_wp2_with fail
  go_region_held3 (fun w' : World => w'.cell? ⟨w.heap.size, 0, none⟩ = some (.slice (some ⟨g, o, none⟩) (m + 1) (cm + 1)) ∧ w'.cell? ⟨w.heap.size, 1, none⟩ = some (.slice B k lc)) (first | exact (HBX.out _ lk).1 | exact ⟨cell_set2 (HBX.out _ lk).1.1 (by omega), cell_set2 (HBX.out _ lk).1.2 (by omega)⟩) (first
    | (go_at_call 51
       with_reducible refine (HC1.out _ lk).mono ?_
       rintro e wA ⟨vA, rfl, hO, hbA⟩
       obtain ⟨PA, cA, rfl, hcA, hIA, hlA⟩ := isl_owns hO
       have HCA := Lib.hid hcA
       have HFA := Lib.hid (own_far hO)
       have hlo1 := lk.size
       replace lk := lk.trans (hbA.mono lk.size)
       (try replace HIB := Lib.hid (HIB.out.below hbA))
       have HIA := Lib.hid hIA
       (try clear z0 z1 zf0 zf1 zl)
       have hzz := (HBX.out _ lk).2
       have z0 := hzz.cell 0
       have z1 := hzz.cell 1
       simp only [List.getElem?_cons_zero, List.getElem?_cons_succ] at z0 z1
       have zf0 := hzz.frozen 0
       have zf1 := hzz.frozen 1
       have zl := hzz.lt
       clear hO hIA hbA hcA hzz)
    | (go_at_call 51
       with_reducible refine (HC2.out _ lk).mono ?_
       rintro e wB ⟨vB, rfl, hO, hbA⟩
       obtain ⟨PB, cB, rfl, hcA, hIA, hlA⟩ := isl_owns hO
       have HCB := Lib.hid hcA
       have HFB := Lib.hid (own_far hO)
       have hlo2 := lk.size
       replace lk := lk.trans (hbA.mono lk.size)
       (try replace HIA := Lib.hid (HIA.out.below hbA))
       have HIB := Lib.hid hIA
       (try clear z0 z1 zf0 zf1 zl)
       have hzz := (HBX.out _ lk).2
       have z0 := hzz.cell 0
       have z1 := hzz.cell 1
       simp only [List.getElem?_cons_zero, List.getElem?_cons_succ] at z0 z1
       have zf0 := hzz.frozen 0
       have zf1 := hzz.frozen 1
       have zl := hzz.lt
       clear hO hIA hbA hcA hzz))
  all_goals
    have hzz := (HBX.out _ lk).2
    have hfin : LaP r l w (.returned (.agg #[.slice PA m cA, .slice PB k cB])) ((_ : World)) := ⟨PA, m, cA, PB, k, cB, rfl, HMM.out, HK.out, ⟨isl_set2 (q := w.heap.size + 1) (u0 := .slice PA m cA) (u1 := .slice PB k cB) HIA.out (fun g o e => by have := HFA.out g o e; omega), isl_set2 HIB.out (fun g o e => by have := HFB.out g o e; omega)⟩, HCA.out, HCB.out, below_set2 (below_t HBW.out lk) (Nat.le_succ _)⟩
    have HFIN := Lib.hid hfin
    have hy := la_set (u0 := .slice PA m cA) (u1 := .slice PB k cB) hzz
    have y0 := hy.cell 0
    have y1 := hy.cell 1
    simp only [List.getElem?_cons_zero, List.getElem?_cons_succ] at y0 y1
    clear hzz hfin hy z0 z1 zf0 zf1 zl
    go_wp2
    refine bodyPost_ret (v := .agg #[.slice PA m cA, .slice PB k cB]) (by simp [results, Tryz.results23, go_sem, y0, y1]) rfl HFIN.out
set_option maxHeartbeats 8000000 in
set_option maxRecDepth 100000 in
theorem shift_stem0 {B : Option Addr} {g o lc k : Nat} {x : Int} {l : List Int} (w : World) (_h : ISl w (some ⟨g, o, none⟩) (x :: ([] : List Int))) (hl : ISl w B l) (hk : l.length = k) (hc2 : CapOk B k lc) (hk6 : k ≤ 1000000) :
    Calls Tryz.prog 23 #[.agg #[.slice (some ⟨g, o, none⟩) 1 1, .slice B k lc]] w (LaP ([] : List Int) l w) := by
  have hbw : Below w.heap.size w ((w.alloc (.cells #[.slice (some ⟨g, o, none⟩) 1 1, .slice B k lc] 42)).alloc (.cells #[.slice none 0 0, .slice none 0 0] 42)) := below_t (below_alloc _ _) (below_alloc _ _)
  have HT : ∀ W, Below ((w.alloc (.cells #[.slice (some ⟨g, o, none⟩) 1 1, .slice B k lc] 42)).alloc (.cells #[.slice none 0 0, .slice none 0 0] 42)).heap.size ((w.alloc (.cells #[.slice (some ⟨g, o, none⟩) 1 1, .slice B k lc] 42)).alloc (.cells #[.slice none 0 0, .slice none 0 0] 42)) W → ISl W (some ⟨g, o, none⟩) ([] : List Int) := fun W hW i hi => by
    exact absurd hi (by simp)
  have HC1 := Lib.hid (fun (W : World) (hW : Below ((w.alloc (.cells #[.slice (some ⟨g, o, none⟩) 1 1, .slice B k lc] 42)).alloc (.cells #[.slice none 0 0, .slice none 0 0] 42)).heap.size ((w.alloc (.cells #[.slice (some ⟨g, o, none⟩) 1 1, .slice B k lc] 42)).alloc (.cells #[.slice none 0 0, .slice none 0 0] 42)) W) => clonei_any (n := 0) (cap := 0) W (HT W hW) rfl ⟨Nat.le_refl _, fun h => by cases h⟩ (by omega))
  have HC2 := Lib.hid (fun (W : World) (hW : Below ((w.alloc (.cells #[.slice (some ⟨g, o, none⟩) 1 1, .slice B k lc] 42)).alloc (.cells #[.slice none 0 0, .slice none 0 0] 42)).heap.size ((w.alloc (.cells #[.slice (some ⟨g, o, none⟩) 1 1, .slice B k lc] 42)).alloc (.cells #[.slice none 0 0, .slice none 0 0] 42)) W) => clonei_any (cap := lc) W (hl.below (below_t hbw hW)) hk hc2 hk6)
  have HBX := Lib.hid (show ∀ W, Below ((w.alloc (.cells #[.slice (some ⟨g, o, none⟩) 1 1, .slice B k lc] 42)).alloc (.cells #[.slice none 0 0, .slice none 0 0] 42)).heap.size ((w.alloc (.cells #[.slice (some ⟨g, o, none⟩) 1 1, .slice B k lc] 42)).alloc (.cells #[.slice none 0 0, .slice none 0 0] 42)) W → ((fun w' : World => w'.cell? ⟨w.heap.size, 0, none⟩ = some (.slice (some ⟨g, o, none⟩) 1 1) ∧ w'.cell? ⟨w.heap.size, 1, none⟩ = some (.slice B k lc)) W) ∧ Bx W (w.heap.size + 1) 42 [.slice none 0 0, .slice none 0 0] from fun W hW => by
    have h1 := ((Bx.new w 42 [.slice (some ⟨g, o, none⟩) 1 1, .slice B k lc]).below (below_alloc _ (.cells #[.slice none 0 0, .slice none 0 0] 42))).below hW
    have h2 := (Bx.new (w.alloc (.cells #[.slice (some ⟨g, o, none⟩) 1 1, .slice B k lc] 42)) 42 [.slice none 0 0, .slice none 0 0]).below hW
    rw [show (w.alloc (.cells #[.slice (some ⟨g, o, none⟩) 1 1, .slice B k lc] 42)).heap.size = w.heap.size + 1 by simp] at h2
    exact ⟨⟨h1.cell 0, h1.cell 1⟩, h2⟩)
  have HBW := Lib.hid hbw
  have HK := Lib.hid hk
  have lk : Below ((w.alloc (.cells #[.slice (some ⟨g, o, none⟩) 1 1, .slice B k lc] 42)).alloc (.cells #[.slice none 0 0, .slice none 0 0] 42)).heap.size ((w.alloc (.cells #[.slice (some ⟨g, o, none⟩) 1 1, .slice B k lc] 42)).alloc (.cells #[.slice none 0 0, .slice none 0 0] 42)) ((w.alloc (.cells #[.slice (some ⟨g, o, none⟩) 1 1, .slice B k lc] 42)).alloc (.cells #[.slice none 0 0, .slice none 0 0] 42)).drew := (Below.refl _ _).drew
  have hz0 : ((w.alloc (.cells #[.slice (some ⟨g, o, none⟩) 1 1, .slice B k lc] 42)).alloc (.cells #[.slice none 0 0, .slice none 0 0] 42)).heap.size = w.heap.size + 2 := by simp
  clear hl hk hc2 hbw HT
  go_enter Tryz.func23, Tryz.ntmps23
  go_wp2_with fail
  go_region_held3 (fun w' : World => w'.cell? ⟨w.heap.size, 0, none⟩ = some (.slice (some ⟨g, o, none⟩) 1 1) ∧ w'.cell? ⟨w.heap.size, 1, none⟩ = some (.slice B k lc)) (first | exact (HBX.out _ lk).1 | exact ⟨cell_set2 (HBX.out _ lk).1.1 (by omega), cell_set2 (HBX.out _ lk).1.2 (by omega)⟩) (first
    | (go_at_call 51
       with_reducible refine (HC1.out _ lk).mono ?_
       rintro e wA ⟨vA, rfl, hO, hbA⟩
       obtain ⟨PA, cA, rfl, hcA, hIA, hlA⟩ := isl_owns hO
       have HCA := Lib.hid hcA
       have HFA := Lib.hid (own_far hO)
       have hlo1 := lk.size
       replace lk := lk.trans (hbA.mono lk.size)
       (try replace HIB := Lib.hid (HIB.out.below hbA))
       have HIA := Lib.hid hIA
       (try clear z0 z1 zf0 zf1 zl)
       have hzz := (HBX.out _ lk).2
       have z0 := hzz.cell 0
       have z1 := hzz.cell 1
       simp only [List.getElem?_cons_zero, List.getElem?_cons_succ] at z0 z1
       have zf0 := hzz.frozen 0
       have zf1 := hzz.frozen 1
       have zl := hzz.lt
       clear hO hIA hbA hcA hzz)
    | (go_at_call 51
       with_reducible refine (HC2.out _ lk).mono ?_
       rintro e wB ⟨vB, rfl, hO, hbA⟩
       obtain ⟨PB, cB, rfl, hcA, hIA, hlA⟩ := isl_owns hO
       have HCB := Lib.hid hcA
       have HFB := Lib.hid (own_far hO)
       have hlo2 := lk.size
       replace lk := lk.trans (hbA.mono lk.size)
       (try replace HIA := Lib.hid (HIA.out.below hbA))
       have HIB := Lib.hid hIA
       (try clear z0 z1 zf0 zf1 zl)
       have hzz := (HBX.out _ lk).2
       have z0 := hzz.cell 0
       have z1 := hzz.cell 1
       simp only [List.getElem?_cons_zero, List.getElem?_cons_succ] at z0 z1
       have zf0 := hzz.frozen 0
       have zf1 := hzz.frozen 1
       have zl := hzz.lt
       clear hO hIA hbA hcA hzz))
  all_goals
    have hzz := (HBX.out _ lk).2
    have hfin : LaP ([] : List Int) l w (.returned (.agg #[.slice PA 0 cA, .slice PB k cB])) ((_ : World)) := ⟨PA, 0, cA, PB, k, cB, rfl, rfl, HK.out, ⟨isl_set2 (q := w.heap.size + 1) (u0 := .slice PA 0 cA) (u1 := .slice PB k cB) HIA.out (fun g o e => by have := HFA.out g o e; omega), isl_set2 HIB.out (fun g o e => by have := HFB.out g o e; omega)⟩, HCA.out, HCB.out, below_set2 (below_t HBW.out lk) (Nat.le_succ _)⟩
    have HFIN := Lib.hid hfin
    have hy := la_set (u0 := .slice PA 0 cA) (u1 := .slice PB k cB) hzz
    have y0 := hy.cell 0
    have y1 := hy.cell 1
    simp only [List.getElem?_cons_zero, List.getElem?_cons_succ] at y0 y1
    clear hzz hfin hy z0 z1 zf0 zf1 zl
    go_wp2
    refine bodyPost_ret (v := .agg #[.slice PA 0 cA, .slice PB k cB]) (by simp [results, Tryz.results23, go_sem, y0, y1]) rfl HFIN.out
set_option maxHeartbeats 8000000 in
set_option maxRecDepth 100000 in
theorem shift_loop {A : Option Addr} {g o cm m sc : Nat} {x : Int} {r : List Int} (w : World) (h : ISl w (some ⟨g, o, none⟩) (x :: r)) (hm : r.length = m) (hcm : m ≤ cm) (hm6 : m + 1 ≤ 1000000) (hc0 : cm ≠ 0) :
    Calls Tryz.prog 23 #[.agg #[.slice A 0 sc, .slice (some ⟨g, o, none⟩) (m + 1) (cm + 1)]] w (LaP [] (r ++ [x]) w) := by
  have hbw : Below w.heap.size w ((w.alloc (.cells #[.slice A 0 sc, .slice (some ⟨g, o, none⟩) (m + 1) (cm + 1)] 42)).alloc (.cells #[.slice none 0 0, .slice none 0 0] 42)) := below_t (below_alloc _ _) (below_alloc _ _)
  have HT : ∀ W, Below ((w.alloc (.cells #[.slice A 0 sc, .slice (some ⟨g, o, none⟩) (m + 1) (cm + 1)] 42)).alloc (.cells #[.slice none 0 0, .slice none 0 0] 42)).heap.size ((w.alloc (.cells #[.slice A 0 sc, .slice (some ⟨g, o, none⟩) (m + 1) (cm + 1)] 42)).alloc (.cells #[.slice none 0 0, .slice none 0 0] 42)) W → WM W (some ⟨g, o + 1, none⟩) (some ⟨g, o, none⟩) r [x] := fun W hW => ⟨fun i hi => by
      obtain ⟨g', o2, e, hc⟩ := h.below (below_t hbw hW) (i + 1) (by simp; omega)
      injection e with e
      injection e with e1 e2
      subst e1 e2
      refine ⟨g, o + 1, rfl, ?_⟩
      rw [show o + 1 + i = o + (i + 1) by omega, hc]
      simp, fun i hi => by
      obtain ⟨g', o2, e, hc⟩ := h.below (below_t hbw hW) 0 (by simp)
      injection e with e
      injection e with e1 e2
      subst e1 e2
      have : i = 0 := by simpa using hi
      subst this
      exact ⟨g, o, rfl, hc⟩⟩
  have HC1 := Lib.hid (fun (W : World) (hW : Below ((w.alloc (.cells #[.slice A 0 sc, .slice (some ⟨g, o, none⟩) (m + 1) (cm + 1)] 42)).alloc (.cells #[.slice none 0 0, .slice none 0 0] 42)).heap.size ((w.alloc (.cells #[.slice A 0 sc, .slice (some ⟨g, o, none⟩) (m + 1) (cm + 1)] 42)).alloc (.cells #[.slice none 0 0, .slice none 0 0] 42)) W) (q : Nat) (q0 : W.cell? ⟨q, 0, none⟩ = some (.slice (some ⟨g, o + 1, none⟩) m cm)) (q1 : W.cell? ⟨q, 1, none⟩ = some (.slice (some ⟨g, o, none⟩) 1 (cm + 1))) => by
    have hcc := concat_any (q := q) (sc := cm) (lc := (cm + 1)) W (HT W hW) ⟨by rw [hm]; exact hcm, fun h => by cases h⟩ ⟨by simp, fun h => by cases h⟩ (by simp) (by rw [hm]; simpa using hm6) (by rw [hm]; exact q0) q1
    exact hcc)
  have HBX := Lib.hid (show ∀ W, Below ((w.alloc (.cells #[.slice A 0 sc, .slice (some ⟨g, o, none⟩) (m + 1) (cm + 1)] 42)).alloc (.cells #[.slice none 0 0, .slice none 0 0] 42)).heap.size ((w.alloc (.cells #[.slice A 0 sc, .slice (some ⟨g, o, none⟩) (m + 1) (cm + 1)] 42)).alloc (.cells #[.slice none 0 0, .slice none 0 0] 42)) W → ((fun w' : World => w'.cell? ⟨w.heap.size, 0, none⟩ = some (.slice A 0 sc) ∧ w'.cell? ⟨w.heap.size, 1, none⟩ = some (.slice (some ⟨g, o, none⟩) (m + 1) (cm + 1))) W) ∧ Bx W (w.heap.size + 1) 42 [.slice none 0 0, .slice none 0 0] from fun W hW => by
    have h1 := ((Bx.new w 42 [.slice A 0 sc, .slice (some ⟨g, o, none⟩) (m + 1) (cm + 1)]).below (below_alloc _ (.cells #[.slice none 0 0, .slice none 0 0] 42))).below hW
    have h2 := (Bx.new (w.alloc (.cells #[.slice A 0 sc, .slice (some ⟨g, o, none⟩) (m + 1) (cm + 1)] 42)) 42 [.slice none 0 0, .slice none 0 0]).below hW
    rw [show (w.alloc (.cells #[.slice A 0 sc, .slice (some ⟨g, o, none⟩) (m + 1) (cm + 1)] 42)).heap.size = w.heap.size + 1 by simp] at h2
    exact ⟨⟨h1.cell 0, h1.cell 1⟩, h2⟩)
  have HBW := Lib.hid hbw
  have HMM := Lib.hid hm
  have lk : Below ((w.alloc (.cells #[.slice A 0 sc, .slice (some ⟨g, o, none⟩) (m + 1) (cm + 1)] 42)).alloc (.cells #[.slice none 0 0, .slice none 0 0] 42)).heap.size ((w.alloc (.cells #[.slice A 0 sc, .slice (some ⟨g, o, none⟩) (m + 1) (cm + 1)] 42)).alloc (.cells #[.slice none 0 0, .slice none 0 0] 42)) ((w.alloc (.cells #[.slice A 0 sc, .slice (some ⟨g, o, none⟩) (m + 1) (cm + 1)] 42)).alloc (.cells #[.slice none 0 0, .slice none 0 0] 42)).drew := (Below.refl _ _).drew
  have hz0 : ((w.alloc (.cells #[.slice A 0 sc, .slice (some ⟨g, o, none⟩) (m + 1) (cm + 1)] 42)).alloc (.cells #[.slice none 0 0, .slice none 0 0] 42)).heap.size = w.heap.size + 2 := by simp
  have HQ := Lib.hid (show Bx (((w.alloc (.cells #[.slice A 0 sc, .slice (some ⟨g, o, none⟩) (m + 1) (cm + 1)] 42)).alloc (.cells #[.slice none 0 0, .slice none 0 0] 42)).drew.alloc (.cells #[.slice (some ⟨g, o + 1, none⟩) m cm, .slice (some ⟨g, o, none⟩) 1 (cm + 1)] 23)) (w.heap.size + 2) 23 [.slice (some ⟨g, o + 1, none⟩) m cm, .slice (some ⟨g, o, none⟩) 1 (cm + 1)] from by
    have h := Bx.new ((w.alloc (.cells #[.slice A 0 sc, .slice (some ⟨g, o, none⟩) (m + 1) (cm + 1)] 42)).alloc (.cells #[.slice none 0 0, .slice none 0 0] 42)).drew 23 [.slice (some ⟨g, o + 1, none⟩) m cm, .slice (some ⟨g, o, none⟩) 1 (cm + 1)]
    rw [show ((w.alloc (.cells #[.slice A 0 sc, .slice (some ⟨g, o, none⟩) (m + 1) (cm + 1)] 42)).alloc (.cells #[.slice none 0 0, .slice none 0 0] 42)).drew.heap.size = w.heap.size + 2 by simp] at h
    exact h)
  have k4 : (1 : Int) ≤ (cm : Int) + 1 := by omega
  have k2 : (1 : Int) ≤ (m : Int) + 1 := by omega
  have k3 : ((m : Int) + 1 == 0) = false := by simp; omega
  clear h hm hbw HT
  go_enter Tryz.func23, Tryz.ntmps23
  go_wp2_with fail
  go_region_held3 (fun w' : World => w'.cell? ⟨w.heap.size, 0, none⟩ = some (.slice A 0 sc) ∧ w'.cell? ⟨w.heap.size, 1, none⟩ = some (.slice (some ⟨g, o, none⟩) (m + 1) (cm + 1))) (first | exact (HBX.out _ lk).1 | exact (HBX.out _ (lk.alloc lk.size _)).1 | exact ⟨cell_set2 (HBX.out _ lk).1.1 (by omega), cell_set2 (HBX.out _ lk).1.2 (by omega)⟩) (first
    | (go_at_call 46
       refine (HC1.out (((w.alloc (.cells #[.slice A 0 sc, .slice (some ⟨g, o, none⟩) (m + 1) (cm + 1)] 42)).alloc (.cells #[.slice none 0 0, .slice none 0 0] 42)).drew.alloc (.cells #[.slice (some ⟨g, o + 1, none⟩) m cm, .slice (some ⟨g, o, none⟩) 1 (cm + 1)] 23)) (lk.alloc lk.size (.cells #[.slice (some ⟨g, o + 1, none⟩) m cm, .slice (some ⟨g, o, none⟩) 1 (cm + 1)] 23)) (w.heap.size + 2) (HQ.out.cell 0) (HQ.out.cell 1)).mono ?_
       rintro e wA ⟨vA, rfl, hO, hbA⟩
       obtain ⟨PA, cA, rfl, hcA, hIA, hlA⟩ := isl_owns hO
       have HCA := Lib.hid hcA
       have HFA := Lib.hid (own_far hO)
       have hlo1 := lk.size
       replace lk := (lk.alloc lk.size (.cells #[.slice (some ⟨g, o + 1, none⟩) m cm, .slice (some ⟨g, o, none⟩) 1 (cm + 1)] 23)).trans (hbA.mono (lk.alloc lk.size (.cells #[.slice (some ⟨g, o + 1, none⟩) m cm, .slice (some ⟨g, o, none⟩) 1 (cm + 1)] 23)).size)
       have HIA := Lib.hid hIA
       have HLA := Lib.hid hlA
       have hzz := (HBX.out _ lk).2
       have z0 := hzz.cell 0
       have z1 := hzz.cell 1
       simp only [List.getElem?_cons_zero, List.getElem?_cons_succ] at z0 z1
       have zf0 := hzz.frozen 0
       have zf1 := hzz.frozen 1
       have zl := hzz.lt
       clear hO hIA hbA hcA hzz hlA))
  all_goals
    have hzz := (HBX.out _ lk).2
    have hfin : LaP [] (r ++ [x]) w (.returned (.agg #[.slice none 0 0, .slice PA (r.length + 1) cA])) ((_ : World)) := ⟨none, 0, 0, PA, r.length + 1, cA, rfl, rfl, by simp, ⟨fun i hi => absurd hi (by simp), isl_set2 (q := w.heap.size + 1) (u0 := .slice none 0 0) (u1 := .slice PA (r.length + 1) cA) HIA.out (fun g o e => by have := HFA.out g o e; simp at this hlo1; omega)⟩, ⟨Nat.le_refl _, fun _ => rfl⟩, HCA.out, below_set2 (below_t HBW.out lk) (Nat.le_succ _)⟩
    have HFIN := Lib.hid hfin
    have hy := la_set (u0 := .slice none 0 0) (u1 := .slice PA (r.length + 1) cA) hzz
    have y0 := hy.cell 0
    have y1 := hy.cell 1
    simp only [List.getElem?_cons_zero, List.getElem?_cons_succ] at y0 y1
    clear hzz hfin hy z0 z1 zf0 zf1 zl
    go_wp2
    refine bodyPost_ret (v := .agg #[.slice none 0 0, .slice PA (r.length + 1) cA]) (by simp [results, Tryz.results23, go_sem, y0, y1]) rfl HFIN.out
set_option maxHeartbeats 8000000 in
set_option maxRecDepth 100000 in
theorem shift_loop0 {A : Option Addr} {g o sc : Nat} {x : Int} (w : World) (h : ISl w (some ⟨g, o, none⟩) (x :: ([] : List Int))) :
    Calls Tryz.prog 23 #[.agg #[.slice A 0 sc, .slice (some ⟨g, o, none⟩) 1 1]] w (LaP [] (([] : List Int) ++ [x]) w) := by
  have hbw : Below w.heap.size w ((w.alloc (.cells #[.slice A 0 sc, .slice (some ⟨g, o, none⟩) 1 1] 42)).alloc (.cells #[.slice none 0 0, .slice none 0 0] 42)) := below_t (below_alloc _ _) (below_alloc _ _)
  have HT : ∀ W, Below ((w.alloc (.cells #[.slice A 0 sc, .slice (some ⟨g, o, none⟩) 1 1] 42)).alloc (.cells #[.slice none 0 0, .slice none 0 0] 42)).heap.size ((w.alloc (.cells #[.slice A 0 sc, .slice (some ⟨g, o, none⟩) 1 1] 42)).alloc (.cells #[.slice none 0 0, .slice none 0 0] 42)) W → WM W (some ⟨g, o, none⟩) (some ⟨g, o, none⟩) ([] : List Int) [x] := fun W hW => ⟨fun i hi => by
      exact absurd hi (by simp), fun i hi => by
      obtain ⟨g', o2, e, hc⟩ := h.below (below_t hbw hW) 0 (by simp)
      injection e with e
      injection e with e1 e2
      subst e1 e2
      have : i = 0 := by simpa using hi
      subst this
      exact ⟨g, o, rfl, hc⟩⟩
  have HC1 := Lib.hid (fun (W : World) (hW : Below ((w.alloc (.cells #[.slice A 0 sc, .slice (some ⟨g, o, none⟩) 1 1] 42)).alloc (.cells #[.slice none 0 0, .slice none 0 0] 42)).heap.size ((w.alloc (.cells #[.slice A 0 sc, .slice (some ⟨g, o, none⟩) 1 1] 42)).alloc (.cells #[.slice none 0 0, .slice none 0 0] 42)) W) (q : Nat) (q0 : W.cell? ⟨q, 0, none⟩ = some (.slice (some ⟨g, o, none⟩) 0 0)) (q1 : W.cell? ⟨q, 1, none⟩ = some (.slice (some ⟨g, o, none⟩) 1 1)) => by
    have hcc := concat_any (q := q) (sc := 0) (lc := 1) W (HT W hW) ⟨Nat.le_refl _, fun h => by cases h⟩ ⟨by simp, fun h => by cases h⟩ (by simp) (by simp) q0 q1
    exact hcc)
  have HBX := Lib.hid (show ∀ W, Below ((w.alloc (.cells #[.slice A 0 sc, .slice (some ⟨g, o, none⟩) 1 1] 42)).alloc (.cells #[.slice none 0 0, .slice none 0 0] 42)).heap.size ((w.alloc (.cells #[.slice A 0 sc, .slice (some ⟨g, o, none⟩) 1 1] 42)).alloc (.cells #[.slice none 0 0, .slice none 0 0] 42)) W → ((fun w' : World => w'.cell? ⟨w.heap.size, 0, none⟩ = some (.slice A 0 sc) ∧ w'.cell? ⟨w.heap.size, 1, none⟩ = some (.slice (some ⟨g, o, none⟩) 1 1)) W) ∧ Bx W (w.heap.size + 1) 42 [.slice none 0 0, .slice none 0 0] from fun W hW => by
    have h1 := ((Bx.new w 42 [.slice A 0 sc, .slice (some ⟨g, o, none⟩) 1 1]).below (below_alloc _ (.cells #[.slice none 0 0, .slice none 0 0] 42))).below hW
    have h2 := (Bx.new (w.alloc (.cells #[.slice A 0 sc, .slice (some ⟨g, o, none⟩) 1 1] 42)) 42 [.slice none 0 0, .slice none 0 0]).below hW
    rw [show (w.alloc (.cells #[.slice A 0 sc, .slice (some ⟨g, o, none⟩) 1 1] 42)).heap.size = w.heap.size + 1 by simp] at h2
    exact ⟨⟨h1.cell 0, h1.cell 1⟩, h2⟩)
  have HBW := Lib.hid hbw
  have lk : Below ((w.alloc (.cells #[.slice A 0 sc, .slice (some ⟨g, o, none⟩) 1 1] 42)).alloc (.cells #[.slice none 0 0, .slice none 0 0] 42)).heap.size ((w.alloc (.cells #[.slice A 0 sc, .slice (some ⟨g, o, none⟩) 1 1] 42)).alloc (.cells #[.slice none 0 0, .slice none 0 0] 42)) ((w.alloc (.cells #[.slice A 0 sc, .slice (some ⟨g, o, none⟩) 1 1] 42)).alloc (.cells #[.slice none 0 0, .slice none 0 0] 42)).drew := (Below.refl _ _).drew
  have hz0 : ((w.alloc (.cells #[.slice A 0 sc, .slice (some ⟨g, o, none⟩) 1 1] 42)).alloc (.cells #[.slice none 0 0, .slice none 0 0] 42)).heap.size = w.heap.size + 2 := by simp
  have HQ := Lib.hid (show Bx (((w.alloc (.cells #[.slice A 0 sc, .slice (some ⟨g, o, none⟩) 1 1] 42)).alloc (.cells #[.slice none 0 0, .slice none 0 0] 42)).drew.alloc (.cells #[.slice (some ⟨g, o, none⟩) 0 0, .slice (some ⟨g, o, none⟩) 1 1] 23)) (w.heap.size + 2) 23 [.slice (some ⟨g, o, none⟩) 0 0, .slice (some ⟨g, o, none⟩) 1 1] from by
    have h := Bx.new ((w.alloc (.cells #[.slice A 0 sc, .slice (some ⟨g, o, none⟩) 1 1] 42)).alloc (.cells #[.slice none 0 0, .slice none 0 0] 42)).drew 23 [.slice (some ⟨g, o, none⟩) 0 0, .slice (some ⟨g, o, none⟩) 1 1]
    rw [show ((w.alloc (.cells #[.slice A 0 sc, .slice (some ⟨g, o, none⟩) 1 1] 42)).alloc (.cells #[.slice none 0 0, .slice none 0 0] 42)).drew.heap.size = w.heap.size + 2 by simp] at h
    exact h)
  clear h hbw HT
  go_enter Tryz.func23, Tryz.ntmps23
  go_wp2_with fail
  go_region_held3 (fun w' : World => w'.cell? ⟨w.heap.size, 0, none⟩ = some (.slice A 0 sc) ∧ w'.cell? ⟨w.heap.size, 1, none⟩ = some (.slice (some ⟨g, o, none⟩) 1 1)) (first | exact (HBX.out _ lk).1 | exact (HBX.out _ (lk.alloc lk.size _)).1 | exact ⟨cell_set2 (HBX.out _ lk).1.1 (by omega), cell_set2 (HBX.out _ lk).1.2 (by omega)⟩) (first
    | (go_at_call 46
       refine (HC1.out (((w.alloc (.cells #[.slice A 0 sc, .slice (some ⟨g, o, none⟩) 1 1] 42)).alloc (.cells #[.slice none 0 0, .slice none 0 0] 42)).drew.alloc (.cells #[.slice (some ⟨g, o, none⟩) 0 0, .slice (some ⟨g, o, none⟩) 1 1] 23)) (lk.alloc lk.size (.cells #[.slice (some ⟨g, o, none⟩) 0 0, .slice (some ⟨g, o, none⟩) 1 1] 23)) (w.heap.size + 2) (HQ.out.cell 0) (HQ.out.cell 1)).mono ?_
       rintro e wA ⟨vA, rfl, hO, hbA⟩
       obtain ⟨PA, cA, rfl, hcA, hIA, hlA⟩ := isl_owns hO
       have HCA := Lib.hid hcA
       have HFA := Lib.hid (own_far hO)
       have hlo1 := lk.size
       replace lk := (lk.alloc lk.size (.cells #[.slice (some ⟨g, o, none⟩) 0 0, .slice (some ⟨g, o, none⟩) 1 1] 23)).trans (hbA.mono (lk.alloc lk.size (.cells #[.slice (some ⟨g, o, none⟩) 0 0, .slice (some ⟨g, o, none⟩) 1 1] 23)).size)
       have HIA := Lib.hid hIA
       have HLA := Lib.hid hlA
       have hzz := (HBX.out _ lk).2
       have z0 := hzz.cell 0
       have z1 := hzz.cell 1
       simp only [List.getElem?_cons_zero, List.getElem?_cons_succ] at z0 z1
       have zf0 := hzz.frozen 0
       have zf1 := hzz.frozen 1
       have zl := hzz.lt
       clear hO hIA hbA hcA hzz hlA))
  all_goals
    have hzz := (HBX.out _ lk).2
    have hfin : LaP [] (([] : List Int) ++ [x]) w (.returned (.agg #[.slice none 0 0, .slice PA 1 cA])) ((_ : World)) := ⟨none, 0, 0, PA, 1, cA, rfl, rfl, by simp, ⟨fun i hi => absurd hi (by simp), isl_set2 (q := w.heap.size + 1) (u0 := .slice none 0 0) (u1 := .slice PA 1 cA) HIA.out (fun g o e => by have := HFA.out g o e; simp at this hlo1; omega)⟩, ⟨Nat.le_refl _, fun _ => rfl⟩, HCA.out, below_set2 (below_t HBW.out lk) (Nat.le_succ _)⟩
    have HFIN := Lib.hid hfin
    have hy := la_set (u0 := .slice none 0 0) (u1 := .slice PA 1 cA) hzz
    have y0 := hy.cell 0
    have y1 := hy.cell 1
    simp only [List.getElem?_cons_zero, List.getElem?_cons_succ] at y0 y1
    clear hzz hfin hy z0 z1 zf0 zf1 zl
    go_wp2
    refine bodyPost_ret (v := .agg #[.slice none 0 0, .slice PA 1 cA]) (by simp [results, Tryz.results23, go_sem, y0, y1]) rfl HFIN.out
theorem shift_any {A B : Option Addr} {s l : List Int} {sc lc : Nat} (w : World) (h : WM w A B s l) (hc1 : CapOk A s.length sc) (hc2 : CapOk B l.length lc) (h1 : s.length ≤ 1000000) (h2 : l.length ≤ 1000000) : Calls Tryz.prog 23 #[.agg #[.slice A s.length sc, .slice B l.length lc]] w (LaP (shS s) (shL s l) w) := by
  cases s with
  | nil =>
    cases l with
    | nil => exact shift_both w
    | cons x r =>
      obtain ⟨g, o, rfl, _⟩ := h.lp 0 (by simp)
      obtain ⟨cm, rfl⟩ : ∃ cm, lc = cm + 1 := ⟨lc - 1, by have := hc2.1; simp at this; omega⟩
      have h3 := hc2.1
      simp only [List.length_cons] at h3 h2
      by_cases hc0 : cm = 0
      · subst hc0
        have hr : r = [] := List.eq_nil_of_length_eq_zero (by omega)
        subst hr
        exact shift_loop0 w h.lp
      · exact shift_loop w h.lp rfl (by omega) h2 hc0
  | cons x r =>
    obtain ⟨g, o, rfl, _⟩ := h.st 0 (by simp)
    obtain ⟨cm, rfl⟩ : ∃ cm, sc = cm + 1 := ⟨sc - 1, by have := hc1.1; simp at this; omega⟩
    have h3 := hc1.1
    simp only [List.length_cons] at h3 h1
    by_cases hc0 : cm = 0
    · subst hc0
      have hr : r = [] := List.eq_nil_of_length_eq_zero (by omega)
      subst hr
      exact shift_stem0 w h.st h.lp rfl hc2 h2
    · exact shift_stem w h.st h.lp rfl hc2 h2 rfl (by omega) h1 hc0
end
end Go.Proofs.YtmgjpjjglghbaaaGreatDoor
