/-
  A formula's labels, as a set; Truths, walked as far as its last call. Names; formulas made of one and of two; walked.
-/
import Derived.Test.YtmgjpjjglghbaaaGreatDoorOG
import Derived.Test.YtmgjpjjglghbaaaGreatDoorOF
import Derived.Test.YtmgjpjjglghbaaaGreatDoorOD
import Derived.Test.YtmgjpjjglghbaaaGreatDoorJD
import Derived.Deep.CutRange
import Derived.Deep.DeepCutAuto
import Derived.Test.YtmgjpjjglghbaaaGreatDoorOB
import Derived.Test.YtmgjpjjglghbaaaGreatDoorOA
import Derived.Test.YtmgjpjjglghbaaaGreatDoorJC
namespace Go.Proofs.YtmgjpjjglghbaaaGreatDoor
section
open Go.RowKit Go.Sort Go.Maps

theorem keys_str {H : Type} (u : DataW H) : ∀ (l : List (List UInt8)) (es : List (Lit × DataW H)), (∀ p ∈ es, ∃ x, p.1 = .string x) → ∃ es', (l.map Lit.string).foldl (fun m x => DataW.put m x u) (.map es) = .map es' ∧ ∀ p ∈ es', ∃ x, p.1 = .string x
  | [], es, h => ⟨es, rfl, h⟩
  | x :: l, es, h => by
    rw [List.map_cons, List.foldl_cons]
    refine keys_str u l _ fun p hp => ?_
    rcases List.mem_cons.1 ((Go.WideShapes.insert_perm _ _).mem_iff.1 hp) with rfl | hp
    · exact ⟨x, rfl⟩
    · exact h p (List.mem_filter.1 hp).1
theorem mem_lbK (l : List (List UInt8)) (x : List UInt8) : x ∈ lbK l ↔ x ∈ l := by
  have hk : ∀ y ∈ l.map Lit.string, WideAt.IsKeyLit y := fun y hy => by
    obtain ⟨z, _, rfl⟩ := List.mem_map.1 hy
    trivial
  obtain ⟨es', he, hs⟩ := keys_str (.agg [] : DataW Unit) l [] (fun p hp => absurd hp (by simp))
  have hD : lbD l = .map es' := he
  have h1 : has (.map es' : DataW Unit) (.string x) = true ↔ x ∈ l := by
    rw [← hD, lbD, has_setOf _ _ _ hk, List.any_map, List.any_eq_true]
    constructor
    · rintro ⟨z, hz, h⟩
      have : z = x := by simpa [Lit.sameKey] using h
      rw [← this]
      exact hz
    · intro h
      exact ⟨x, h, by simp [Lit.sameKey]⟩
  rw [lbK, List.mem_mergeSort, hD, ← h1, has_eq, List.any_eq_true]
  show x ∈ es'.map (fun p => strOf p.1) ↔ _
  rw [List.mem_map]
  constructor
  · rintro ⟨p, hp, rfl⟩
    obtain ⟨a, ha⟩ := hs p hp
    exact ⟨p, hp, by rw [ha]; simp [Lit.sameKey, strOf]⟩
  · rintro ⟨p, hp, h⟩
    obtain ⟨a, ha⟩ := hs p hp
    rw [ha] at h
    have : a = x := by simpa [Lit.sameKey] using h
    exact ⟨p, hp, by rw [ha, this]; rfl⟩
/-- What Truths tells as an error. -/
noncomputable def tuE (nms : List ByteArray) (s l : List Int) (x : Fo) : Value := if wR nms s l then (if hdO nms x = true then .nilIface else .iface 78 (.int .i64 30)) else .iface 78 (.int .i64 1)
def TuP (nms : List ByteArray) (s l : List Int) (x : Fo) (w : World) (e : Ending) (w' : World) : Prop :=
  ∃ A m cap, e = .returned (.tuple #[.slice A m cap, tuE nms s l x]) ∧ (wR nms s l → hdO nms x = true → m = s.length + l.length ∧ m ≤ cap ∧ BSl w' A (trO m s.length (labO nms (s ++ l)) x) ∧ (trO m s.length (labO nms (s ++ l)) x).length = m) ∧ (¬ (wR nms s l ∧ hdO nms x = true) → m = 0) ∧ Below w.heap.size w w'
/-- Truths' own boxes. -/
def UBx (w0 : World) (A : Option Addr) (n sc : Nat) (B : Option Addr) (m lc : Nat) (v : FV) (w : World) : Prop :=
  (w.cell? ⟨w0.heap.size, 0, none⟩ = some (.string v.o) ∧ w.cell? ⟨w0.heap.size, 1, none⟩ = some (.string v.nm) ∧ w.cell? ⟨w0.heap.size, 2, none⟩ = some (.slice v.A v.ll v.cap) ∧ w.cell? ⟨w0.heap.size, 3, none⟩ = some (.int .i64 v.p)) ∧
    w.cell? ⟨w0.heap.size + 1, 0, none⟩ = some (.slice A n sc) ∧ w.cell? ⟨w0.heap.size + 1, 1, none⟩ = some (.slice B m lc)
theorem pl_set {W : World} {q : Nat} {t : TypeId} {z0 z1 z2 u0 u1 u2 : Value} (h : Bx W q t [z0, z1, z2]) : Bx (((W.setCell ⟨q, 0, none⟩ u0).setCell ⟨q, 1, none⟩ u1).setCell ⟨q, 2, none⟩ u2) q t [u0, u1, u2] := ((h.set 0 u0).set 1 u1).set 2 u2
theorem isl_set {W : World} {q : Nat} {P : Option Addr} {l : List Int} {u0 u1 u2 : Value} (h : ISl W P l) (hq : ∀ g o, P = some ⟨g, o, none⟩ → q ≠ g) : ISl (((W.setCell ⟨q, 0, none⟩ u0).setCell ⟨q, 1, none⟩ u1).setCell ⟨q, 2, none⟩ u2) P l := fun i hi => by
  obtain ⟨g, o, h1, h2⟩ := h i hi
  have hne := hq g o h1
  refine ⟨g, o, h1, ?_⟩
  rw [World.cell?_setCell_other _ _ _ _ (by first | (simp; done) | (simp; omega)), World.cell?_setCell_other _ _ _ _ (by first | (simp; done) | (simp; omega)), World.cell?_setCell_other _ _ _ _ (by first | (simp; done) | (simp; omega))]
  exact h2
theorem below_set3 {B : Nat} {a W : World} {q : Nat} {u0 u1 u2 : Value} (h : Below B a W) (hq : B ≤ q) : Below B a (((W.setCell ⟨q, 0, none⟩ u0).setCell ⟨q, 1, none⟩ u1).setCell ⟨q, 2, none⟩ u2) := ((h.setCell (p := ⟨q, 0, none⟩) hq _).setCell (p := ⟨q, 1, none⟩) hq _).setCell (p := ⟨q, 2, none⟩) hq _
def LbRel (nms : List ByteArray) (lbls : List (List UInt8)) (w0 : World) (i : Value) (wr : World) : Prop := ∃ k : Nat, i = .int .i64 (k : Int) ∧ k ≤ lbls.length ∧ (∀ y ∈ lbls.take k, (⟨y.toArray⟩ : ByteArray) ∈ nms) ∧ Below w0.heap.size w0 wr
open Classical in
set_option maxHeartbeats 8000000 in
set_option maxRecDepth 100000 in
theorem truths_any {N A B : Option Addr} {nms : List ByteArray} {s l : List Int} {nc sc lc : Nat} {x : Fo} {c : List Value} {S : Nat → Prop} (w : World) (hN : SSl w N nms) (h : WM w A B s l) (hc1 : CapOk A s.length sc) (hc2 : CapOk B l.length lc) (h0 : nms.length ≤ 1000000) (h1 : s.length ≤ 1000000) (h2 : l.length ≤ 1000000) (hx : FS w 27 S x c) (ho : OkF x) (hz : x.size ≤ 4096) :
    Calls Tryz.prog 15 #[.agg c.toArray, .slice N nms.length nc, lav A s.length sc B l.length lc] w (TuP nms s l x w) := by
  obtain ⟨nm0, K, kl, kc, rfl⟩ := hx.form
  obtain ⟨v, hv⟩ : ∃ v : FV, v = ⟨⟨x.op.toArray⟩, nm0, K, kl, kc, (x.pos : Int)⟩ := ⟨_, rfl⟩
  rw [← hv] at hx ⊢
  clear hv
  have HCK := Lib.hid (fun (W : World) (hb : Below w.heap.size w W) => check_any (nc := nc) (sc := sc) (lc := lc) W (hN.below hb) (h.below hb) h0 h1 h2)
  have HPS := Lib.hid (fun (W : World) (hb : Below w.heap.size w W) => psize_any W (hx.below hb))
  rw [show min x.size 4097 = x.size by omega] at HPS
  have HIF := Lib.hid (fun (W : World) (hb : Below w.heap.size w W) => isf_any x ho W S v.c (hx.below hb))
  have HLB := Lib.hid (fun (W : World) (hb : Below w.heap.size w W) => plabels_any W ho (by omega) (hx.below hb))
  have HCN := Lib.hid (fun (y : ByteArray) (W : World) (hb : Below w.heap.size w W) => contains_any (cap := nc) y W (hN.below hb) h0)
  have HMEM := Lib.hid (show (∀ y ∈ lbK (lbs x), (⟨y.toArray⟩ : ByteArray) ∈ nms) ↔ hdO nms x = true by
    rw [hd_iff]
    exact ⟨fun h y hy => h y ((mem_lbK _ _).2 hy), fun h y hy => h y ((mem_lbK _ _).1 hy)⟩)
  have HTR := Lib.hid (fun (hr : wR nms s l) (hd : hdO nms x = true) (W : World) (hb : Below w.heap.size w W) (P : Option Addr) (pc : Nat) (hP : ISl W P (s ++ l)) => tr_any (a := s.length) (nms := nms) (ls := s ++ l) (by rw [List.length_append]; have := List.length_pos_iff.2 hr.2.2.1; omega) x ho (hd_iff.1 hd) W N P nc pc S v.c ⟨hN.below hb, hP, hr.1, by rw [List.length_append]; have := hr.2.2.2.1; omega, fun c hc => by
    have hp : ((2 ^ nms.length : Nat) : Int) ≤ 64 := by
      have h6 := hr.1
      have : 2 ^ nms.length ≤ 2 ^ 6 := Nat.pow_le_pow_right (by omega) h6
      omega
    rcases List.mem_append.1 hc with hc | hc
    · have := hr.2.2.2.2.1 c hc; exact ⟨this.1, by have := this.2; omega⟩
    · have := hr.2.2.2.2.2 c hc; exact ⟨this.1, by have := this.2; omega⟩⟩ (hx.below hb))
  have HCC := Lib.hid (fun (hr : wR nms s l) (W : World) (hb : Below w.heap.size w W) (q : Nat) (q0 : W.cell? ⟨q, 0, none⟩ = some (.slice A s.length sc)) (q1 : W.cell? ⟨q, 1, none⟩ = some (.slice B l.length lc)) => concat_any (q := q) W (h.below hb) hc1 hc2 (by have := List.length_pos_iff.2 hr.2.2.1; omega) (by have := hr.2.2.2.1; omega) q0 q1)
  have HLEN := Lib.hid (show (s ++ l).length = s.length + l.length from List.length_append)
  rw [HLEN.out] at HTR
  have HE := Lib.hid (show ∀ (A' : Option Addr) (m cap : Nat) (w' : World), Below w.heap.size w w' → (wR nms s l → hdO nms x = true → m = s.length + l.length ∧ m ≤ cap ∧ BSl w' A' (trO m s.length (labO nms (s ++ l)) x) ∧ (trO m s.length (labO nms (s ++ l)) x).length = m) → (¬ (wR nms s l ∧ hdO nms x = true) → m = 0) → ∀ er, er = tuE nms s l x → TuP nms s l x w (.returned (.tuple #[.slice A' m cap, er])) w' from fun A' m cap w' hb h1 h2 er he => ⟨A', m, cap, by rw [he], h1, h2, hb⟩)
  have hxs : x.size ≤ 4096 := hz
  obtain ⟨zz, hzz⟩ : ∃ zz, zz = x.size := ⟨_, rfl⟩
  rw [← hzz] at HPS hxs
  show Calls Tryz.prog 15 #[.agg #[.string v.o, .string v.nm, .slice v.A v.ll v.cap, .int .i64 v.p], .slice N nms.length nc, .agg #[.slice A s.length sc, .slice B l.length lc]] w _
  have HB0 := Lib.hid (show Below w.heap.size w ((w.alloc (.cells #[.string v.o, .string v.nm, .slice v.A v.ll v.cap, .int .i64 v.p] 27)).alloc (.cells #[.slice A s.length sc, .slice B l.length lc] 42)) from below_t (below_alloc _ _) (below_alloc _ _))
  have HUB := Lib.hid (show ∀ W, Below ((w.alloc (.cells #[.string v.o, .string v.nm, .slice v.A v.ll v.cap, .int .i64 v.p] 27)).alloc (.cells #[.slice A s.length sc, .slice B l.length lc] 42)).heap.size ((w.alloc (.cells #[.string v.o, .string v.nm, .slice v.A v.ll v.cap, .int .i64 v.p] 27)).alloc (.cells #[.slice A s.length sc, .slice B l.length lc] 42)) W → UBx w A s.length sc B l.length lc v W from fun W hW => by
    have h1 := ((Bx.new w 27 [.string v.o, .string v.nm, .slice v.A v.ll v.cap, .int .i64 v.p]).below (below_alloc _ (.cells #[.slice A s.length sc, .slice B l.length lc] 42))).below hW
    have h2 := (Bx.new (w.alloc (.cells #[.string v.o, .string v.nm, .slice v.A v.ll v.cap, .int .i64 v.p] 27)) 42 [.slice A s.length sc, .slice B l.length lc]).below hW
    rw [show (w.alloc (.cells #[.string v.o, .string v.nm, .slice v.A v.ll v.cap, .int .i64 v.p] 27)).heap.size = w.heap.size + 1 by simp] at h2
    exact ⟨⟨h1.cell 0, h1.cell 1, h1.cell 2, h1.cell 3⟩, h2.cell 0, h2.cell 1⟩)
  generalize nms.length = nl at *
  generalize s.length = n at *
  generalize l.length = m at *
  clear hN h hc1 hc2 hx ho hz hzz HLEN h0
  by_cases hr : wR nms s l
  · rw [if_pos hr] at HCK
    have HRR := Lib.hid hr
    clear hr
    go_enter Tryz.func15, Tryz.ntmps15
    go_wp2_with fail
    with_reducible refine (HCK.out _ HB0.out).mono ?_
    rintro e w1 ⟨rfl, hb1⟩
    have HK1 := Lib.hid hb1
    obtain ⟨⟨f0, f1, f2, f3⟩, b0, b1⟩ := HUB.out _ hb1
    clear hb1
    have e1 : decide (4096 < (zz : Int)) = false := by simp; omega
    have e1' : decide (4096 < zz) = false := by simp; omega
    go_wp2_with fail
    refine (HPS.out _ (below_t HB0.out HK1.out)).mono ?_
    rintro e w2 ⟨rfl, hb2⟩
    have HK2 := Lib.hid (HK1.out.trans (hb2.mono HK1.out.size))
    clear hb2 f0 f1 f2 f3 b0 b1
    obtain ⟨⟨f0, f1, f2, f3⟩, b0, b1⟩ := HUB.out _ HK2.out
    go_wp2_with fail
    refine (HIF.out _ (below_t HB0.out HK2.out)).mono ?_
    rintro e w3 ⟨rfl, hb3⟩
    have HK3 := Lib.hid (HK2.out.trans (hb3.mono HK2.out.size))
    clear hb3 f0 f1 f2 f3 b0 b1
    obtain ⟨⟨f0, f1, f2, f3⟩, b0, b1⟩ := HUB.out _ HK3.out
    go_wp2_with fail
    refine (HLB.out _ (below_t HB0.out HK3.out)).mono ?_
    rintro e w4 ⟨v4, rfl, hrow, -, hlen4, hb4⟩
    have HK4 := Lib.hid (HK3.out.trans (hb4.mono HK3.out.size))
    obtain ⟨B4, c4, rfl, hRS⟩ := rs_row hrow
    have HRS := Lib.hid hRS
    clear hb4 f0 f1 f2 f3 b0 b1 hrow hRS
    obtain ⟨lb, hlb⟩ : ∃ lb, lb = lbK (lbs x) := ⟨_, rfl⟩
    rw [← hlb] at HRS HMEM hlen4 ⊢
    obtain ⟨L, hL⟩ : ∃ L, L = lb.length := ⟨_, rfl⟩
    have HLN := Lib.hid hL
    rw [← hL] at hlen4 ⊢
    clear hlb hL
    go_wp2
    go_loopw [30] (fun i wr => LbRel nms lb w4 i wr) (fun i _ => L - (intOf i).toNat)
    case atStart => exact ⟨0, rfl, Nat.zero_le _, fun y hy => absurd hy (by simp), Below.refl _ _⟩
    case round =>
      obtain ⟨k, rfl, hk, hin, hb⟩ := hrel
      rw [← HLN.out] at hk
      have HK5 := Lib.hid (HK4.out.trans (hb.mono HK4.out.size))
      have HB5 := Lib.hid hb
      by_cases hlt : k < L
      · have d1 : decide (k < L) = true := by simp; omega
        have kk : k < lb.length := by rw [← HLN.out]; exact hlt
        obtain ⟨g, rfl, hg, a0⟩ := HRS.out.below hb k kk
        have HRS2 := Lib.hid HRS
        clear HRS
        unfold strV at a0
        have HNO := Lib.hid (show (⟨lb[k].toArray⟩ : ByteArray) ∉ nms → ¬ hdO nms x = true from fun h1 h2 => h1 (HMEM.out.2 h2 _ (List.getElem_mem kk)))
        have HYES := Lib.hid (show (⟨lb[k].toArray⟩ : ByteArray) ∈ nms → ∀ y ∈ lb.take (k + 1), (⟨y.toArray⟩ : ByteArray) ∈ nms from fun h1 y hy => by
          rw [List.take_succ_eq_append_getElem kk, List.mem_append] at hy
          rcases hy with hy | hy
          · exact hin y hy
          · simp only [List.mem_singleton] at hy; subst hy; exact h1)
        generalize (⟨lb[k].toArray⟩ : ByteArray) = y at *
        have HC := Lib.hid (HCN.out y _ (below_t HB0.out HK5.out))
        clear hin hk hb
        by_cases hy : y ∈ nms
        · have HM := Lib.hid (HYES.out hy)
          rw [decide_eq_true hy] at HC
          clear hy
          go_wp2_with fail
          with_reducible refine (HC.out).mono ?_
          rintro e w6 ⟨rfl, rfl⟩
          go_wp2_with fail
          go_roundw
          case rel => exact ⟨k + 1, by go_num, by rw [← HLN.out]; omega, HM.out, HB5.out⟩
          case measure => simp [intOf]; omega
        · have HM := Lib.hid (HNO.out hy)
          rw [decide_eq_false hy] at HC
          clear hy
          go_wp2_with fail
          with_reducible refine (HC.out).mono ?_
          rintro e w6 ⟨rfl, rfl⟩
          go_wp2_with fail
          go_ret2
          exact HE.out none 0 0 _ (below_t HB0.out HK5.out) (fun _ h => absurd h HM.out) (fun _ => rfl) _ (by rw [tuE, if_pos HRR.out, if_neg HM.out]; rfl)
      · have d1 : decide (k < L) = false := by simp; omega
        have HHD := Lib.hid (HMEM.out.1 (fun y hy => hin y (by rw [show k = lb.length by rw [← HLN.out]; omega, List.take_of_length_le (Nat.le_refl _)]; exact hy)))
        obtain ⟨⟨f0, f1, f2, f3⟩, b0, b1⟩ := HUB.out _ HK5.out
        clear hin hk hb
        go_wp2_with fail
        have lk : Below ((w.alloc (.cells #[.string v.o, .string v.nm, .slice v.A v.ll v.cap, .int .i64 v.p] 27)).alloc (.cells #[.slice A n sc, .slice B m lc] 42)).heap.size ((w.alloc (.cells #[.string v.o, .string v.nm, .slice v.A v.ll v.cap, .int .i64 v.p] 27)).alloc (.cells #[.slice A n sc, .slice B m lc] 42)) wr.drew := HK5.out.drew
        have hlo := HK5.out.size
        have HKS := Lib.hid (show ∀ W, Below ((w.alloc (.cells #[.string v.o, .string v.nm, .slice v.A v.ll v.cap, .int .i64 v.p] 27)).alloc (.cells #[.slice A n sc, .slice B m lc] 42)).heap.size ((w.alloc (.cells #[.string v.o, .string v.nm, .slice v.A v.ll v.cap, .int .i64 v.p] 27)).alloc (.cells #[.slice A n sc, .slice B m lc] 42)) W → ((fun w' : World => w'.cell? ⟨w.heap.size + 1, 0, none⟩ = some (.slice A n sc) ∧ w'.cell? ⟨w.heap.size + 1, 1, none⟩ = some (.slice B m lc)) W) from fun W hW => (HUB.out W hW).2)
        clear f0 f1 f2 f3 b0 b1
        go_upto_region 12 with fail
        go_cut [11] from 40 to 51 (fun s11 W => ∃ b P pc, s11 = .pointer (some ⟨b, 0, none⟩) ∧ W.cell? ⟨b, 0, none⟩ = some (.slice N nl nc) ∧ W.cell? ⟨b, 1, none⟩ = some (.slice P (n + m) pc) ∧ W.cell? ⟨b, 2, none⟩ = some (.int .i64 (n : Int)) ∧ ISl W P (s ++ l) ∧ Below ((w.alloc (.cells #[.string v.o, .string v.nm, .slice v.A v.ll v.cap, .int .i64 v.p] 27)).alloc (.cells #[.slice A n sc, .slice B m lc] 42)).heap.size ((w.alloc (.cells #[.string v.o, .string v.nm, .slice v.A v.ll v.cap, .int .i64 v.p] 27)).alloc (.cells #[.slice A n sc, .slice B m lc] 42)) W)
        case first =>
          go_region_held3 (fun w' : World => w'.cell? ⟨w.heap.size + 1, 0, none⟩ = some (.slice A n sc) ∧ w'.cell? ⟨w.heap.size + 1, 1, none⟩ = some (.slice B m lc)) (first | exact HKS.out _ lk | exact HKS.out _ (lk.alloc lk.size _) | exact HKS.out _ ((lk.alloc lk.size _).alloc (lk.alloc lk.size _).size _) | exact HKS.out _ (((lk.setCell (by first | exact hlo | (simp at hlo ⊢; omega)) _).setCell (by first | exact hlo | (simp at hlo ⊢; omega)) _).setCell (by first | exact hlo | (simp at hlo ⊢; omega)) _)) (first
          | (go_at_call 46
             with_reducible refine (HCC.out HRR.out (wr.alloc (.cells #[.slice A n sc, .slice B m lc] 23)).drew (below_t HB0.out (HK5.out.alloc HK5.out.size _).drew) wr.heap.size (by simp) (by simp)).mono ?_
             rintro e wA ⟨vA, rfl, hO, hbA⟩
             obtain ⟨P, pc, rfl, -, hI, -⟩ := isl_owns hO
             have HI := Lib.hid hI
             replace lk : Below ((w.alloc (.cells #[.string v.o, .string v.nm, .slice v.A v.ll v.cap, .int .i64 v.p] 27)).alloc (.cells #[.slice A n sc, .slice B m lc] 42)).heap.size ((w.alloc (.cells #[.string v.o, .string v.nm, .slice v.A v.ll v.cap, .int .i64 v.p] 27)).alloc (.cells #[.slice A n sc, .slice B m lc] 42)) wA := ((HK5.out.alloc HK5.out.size _).drew).trans (hbA.mono ((HK5.out.alloc HK5.out.size _).drew).size)
             have hsz : wr.heap.size + 1 ≤ wA.heap.size := by have := hbA.size; simp at this; omega
             have HPG := Lib.hid (show ∀ g o, P = some ⟨g, o, none⟩ → wr.heap.size + 1 ≤ g from fun g o e => by have h := (hO.lt g (by rw [e]; rfl)).1; simpa using h)
             clear hO hI hbA)
          | (go_at_call 46
             with_reducible refine (HCC.out HRR.out ((wr.alloc (.cells #[.slice none 0 0, .slice none 0 0, .int .i64 0] 83)).alloc (.cells #[.slice A n sc, .slice B m lc] 23)).drew (below_t HB0.out ((HK5.out.alloc HK5.out.size _).alloc (HK5.out.alloc HK5.out.size _).size _).drew) (wr.heap.size + 1) (by simp) (by simp)).mono ?_
             rintro e wA ⟨vA, rfl, hO, hbA⟩
             obtain ⟨P, pc, rfl, -, hI, -⟩ := isl_owns hO
             have HI := Lib.hid hI
             replace lk : Below ((w.alloc (.cells #[.string v.o, .string v.nm, .slice v.A v.ll v.cap, .int .i64 v.p] 27)).alloc (.cells #[.slice A n sc, .slice B m lc] 42)).heap.size ((w.alloc (.cells #[.string v.o, .string v.nm, .slice v.A v.ll v.cap, .int .i64 v.p] 27)).alloc (.cells #[.slice A n sc, .slice B m lc] 42)) wA := (((HK5.out.alloc HK5.out.size _).alloc (HK5.out.alloc HK5.out.size _).size _).drew).trans (hbA.mono (((HK5.out.alloc HK5.out.size _).alloc (HK5.out.alloc HK5.out.size _).size _).drew).size)
             have hsz : wr.heap.size + 2 ≤ wA.heap.size := by have := hbA.size; simp at this; omega
             have hzb := ((Bx.new wr 83 [.slice none 0 0, .slice none 0 0, .int .i64 0]).below (below_alloc _ (.cells #[.slice A n sc, .slice B m lc] 23)).drew).below hbA
             have HZB := Lib.hid hzb
             obtain ⟨z0, z1, z2⟩ := hzb.tri
             have zf0 := hzb.frozen 0
             have zf1 := hzb.frozen 1
             have zf2 := hzb.frozen 2
             have zl := hzb.lt
             clear hzb
             have HPG := Lib.hid (show ∀ g o, P = some ⟨g, o, none⟩ → wr.heap.size + 2 ≤ g from fun g o e => by have h := (hO.lt g (by rw [e]; rfl)).1; simpa using h)
             clear hO hI hbA)
          | (go_at_call 46
             with_reducible refine (HCC.out HRR.out ((wr.alloc (.cells #[.slice A n sc, .slice B m lc] 23)).alloc (.cells #[.slice none 0 0, .slice none 0 0, .int .i64 0] 83)).drew (below_t HB0.out ((HK5.out.alloc HK5.out.size _).alloc (HK5.out.alloc HK5.out.size _).size _).drew) wr.heap.size (by simp) (by simp)).mono ?_
             rintro e wA ⟨vA, rfl, hO, hbA⟩
             obtain ⟨P, pc, rfl, -, hI, -⟩ := isl_owns hO
             have HI := Lib.hid hI
             replace lk : Below ((w.alloc (.cells #[.string v.o, .string v.nm, .slice v.A v.ll v.cap, .int .i64 v.p] 27)).alloc (.cells #[.slice A n sc, .slice B m lc] 42)).heap.size ((w.alloc (.cells #[.string v.o, .string v.nm, .slice v.A v.ll v.cap, .int .i64 v.p] 27)).alloc (.cells #[.slice A n sc, .slice B m lc] 42)) wA := (((HK5.out.alloc HK5.out.size _).alloc (HK5.out.alloc HK5.out.size _).size _).drew).trans (hbA.mono (((HK5.out.alloc HK5.out.size _).alloc (HK5.out.alloc HK5.out.size _).size _).drew).size)
             have hsz : wr.heap.size + 2 ≤ wA.heap.size := by have := hbA.size; simp at this; omega
             have hzb := (show Bx ((wr.alloc (.cells #[.slice A n sc, .slice B m lc] 23)).alloc (.cells #[.slice none 0 0, .slice none 0 0, .int .i64 0] 83)).drew (wr.heap.size + 1) 83 [.slice none 0 0, .slice none 0 0, .int .i64 0] from by have h := (Bx.new (wr.alloc (.cells #[.slice A n sc, .slice B m lc] 23)) 83 [.slice none 0 0, .slice none 0 0, .int .i64 0]).below (Below.refl _ _).drew; rw [show (wr.alloc (.cells #[.slice A n sc, .slice B m lc] 23)).heap.size = wr.heap.size + 1 by simp] at h; exact h).below hbA
             have HZB := Lib.hid hzb
             obtain ⟨z0, z1, z2⟩ := hzb.tri
             have zf0 := hzb.frozen 0
             have zf1 := hzb.frozen 1
             have zf2 := hzb.frozen 2
             have zl := hzb.lt
             clear hzb
             have HPG := Lib.hid (show ∀ g o, P = some ⟨g, o, none⟩ → wr.heap.size + 2 ≤ g from fun g o e => by have h := (hO.lt g (by rw [e]; rfl)).1; simpa using h)
             clear hO hI hbA)
)
          · have HLK := Lib.hid lk
            clear lk
            go_wp2
            go_meet
            exact ⟨_, P, pc, rfl, (Bx.new wA 83 [.slice N nl nc, .slice P (n + m) pc, .int .i64 (n : Int)]).cell 0, (Bx.new wA 83 [.slice N nl nc, .slice P (n + m) pc, .int .i64 (n : Int)]).cell 1, (Bx.new wA 83 [.slice N nl nc, .slice P (n + m) pc, .int .i64 (n : Int)]).cell 2, HI.out.below (below_alloc _ _), HLK.out.alloc HLK.out.size _⟩
          · have HLK := Lib.hid lk
            clear lk
            go_wp2
            go_meet
            exact ⟨_, P, pc, rfl, (pl_set HZB.out).cell 0, (pl_set HZB.out).cell 1, (pl_set HZB.out).cell 2, isl_set HI.out (fun g o e => by have := HPG.out g o e; omega), below_set3 HLK.out (by simp at hlo ⊢; omega)⟩
          · have HLK := Lib.hid lk
            clear lk
            go_wp2
            go_meet
            exact ⟨_, P, pc, rfl, (pl_set HZB.out).cell 0, (pl_set HZB.out).cell 1, (pl_set HZB.out).cell 2, isl_set HI.out (fun g o e => by have := HPG.out g o e; omega), below_set3 HLK.out hlo⟩
        case rest =>
          obtain ⟨b, P, pc, rfl, c0, c1, c2, hI, hb⟩ := hcut
          have HRT := Lib.hid (HTR.out HRR.out HHD.out _ (below_t HB0.out hb) P pc hI)
          have HLK := Lib.hid hb
          obtain ⟨⟨f0, f1, f2, f3⟩, -, -⟩ := HUB.out _ hb
          clear hI hb
          go_wp2_with fail
          refine (HRT.out).mono ?_
          rintro e w9 ⟨A9, d9, rfl, hd9, hl9, hB9, hb9⟩
          have HB9 := Lib.hid (below_t HB0.out (HLK.out.trans (hb9.mono HLK.out.size)))
          have H9 := Lib.hid hB9
          have HL9 := Lib.hid hl9
          have HD9 := Lib.hid hd9
          clear hB9 hl9 hd9 hb9
          go_wp2
          go_ret2
          exact HE.out A9 (n + m) d9 _ HB9.out (fun _ _ => ⟨rfl, HD9.out, H9.out, HL9.out⟩) (fun h => absurd ⟨HRR.out, HHD.out⟩ h) _ (by rw [tuE, if_pos HRR.out, if_pos HHD.out]; rfl)
  · rw [if_neg hr] at HCK
    have HRR := Lib.hid hr
    clear hr
    go_enter Tryz.func15, Tryz.ntmps15
    go_wp2_with fail
    with_reducible refine (HCK.out _ HB0.out).mono ?_
    rintro e w1 ⟨rfl, hb1⟩
    have HK1 := Lib.hid hb1
    clear hb1
    go_wp2_with fail
    go_ret2
    exact HE.out none 0 0 _ (below_t HB0.out HK1.out) (fun h => absurd h HRR.out) (fun _ => rfl) _ (by rw [tuE, if_neg HRR.out]; rfl)
end
section
open Go.RowKit

/-- The names. -/
def NMS : List ByteArray := [⟨#[97]⟩, ⟨#[98]⟩, ⟨#[103, 111, 97, 108]⟩]
def NmP (w : World) (e : Ending) (w' : World) : Prop := ∃ q, e = .returned (.slice (some ⟨q, 0, none⟩) 3 3) ∧ SSl w' (some ⟨q, 0, none⟩) NMS ∧ Below w.heap.size w w'
theorem ssl_bx {w : World} {q : Nat} {t : TypeId} {l : List ByteArray} (h : Bx w q t (l.map Value.string)) : SSl w (some ⟨q, 0, none⟩) l := fun i hi => by
  refine ⟨q, 0, rfl, ?_⟩
  rw [Nat.zero_add, h.cell i, List.getElem?_map, List.getElem?_eq_getElem hi]; rfl
theorem names_any (w : World) : Calls Tryz.prog 22 #[] w (NmP w) := by
  go_enter Tryz.func22, Tryz.ntmps22
  go_wp2
  go_ret
  exact ⟨w.heap.size, rfl, ssl_bx (t := 9) (Bx.new w 9 (NMS.map Value.string)), below_alloc _ _⟩
def TT : Nat → Prop := fun _ => True
/-- A formula that a call has made. -/
def FMk (x : Fo) (w : World) (e : Ending) (w' : World) : Prop := ∃ v : FV, e = .returned (.agg #[.string v.o, .string v.nm, .slice v.A v.ll v.cap, .int .i64 v.p]) ∧ FS w' 27 TT x v.c ∧ Below w.heap.size w w'
theorem FS.tt {w : World} {S : Nat → Prop} {x : Fo} {c : List Value} (h : FS w 27 S x c) : FS w 27 TT x c := h.wide fun _ _ _ => trivial
theorem arr_new {W : World} {q : Nat} {xs : List Value} (h : Bx W q 27 xs) : Arr W 27 TT q xs := ⟨trivial, _, h, fun j u hu => by simpa using hu⟩
theorem fs_un {W : World} {q : Nat} {op : ByteArray} {x : Fo} {c : List Value} (h : Bx W q 27 c) (hx : FS W 27 TT x c) : FS W 27 TT (fUn op.data.toList x) [.string op, .string ⟨#[]⟩, .slice (some ⟨q, 0, none⟩) 1 1, .int .i64 0] :=
  ⟨q, 1, c, rfl, arr_new h, hx⟩
theorem fs_bin {W : World} {q : Nat} {op : ByteArray} {x y : Fo} {c d : List Value} (h : Bx W q 27 (c ++ d)) (hx : FS W 27 TT x c) (hy : FS W 27 TT y d) : FS W 27 TT (fBin op.data.toList x y) [.string op, .string ⟨#[]⟩, .slice (some ⟨q, 0, none⟩) 2 2, .int .i64 0] :=
  ⟨q, 2, c, d, rfl, arr_new h, hx, hy⟩
theorem one_any {op : ByteArray} {x : Fo} {v : FV} (w : World) (hx : FS w 27 TT x v.c) : Calls Tryz.prog 27 #[.string op, .agg #[.string v.o, .string v.nm, .slice v.A v.ll v.cap, .int .i64 v.p]] w (FMk (fUn op.data.toList x) w) := by
  have HX := Lib.hid hx
  clear hx
  go_enter Tryz.func27, Tryz.ntmps27
  go_wp2
  have hz : ((w.alloc (.cells v.c.toArray 27)).alloc (.cells #[.string op, .string ⟨#[]⟩, .slice (some ⟨w.heap.size + 1 + 1, 0, none⟩) 1 1, .int .i64 0] 27)).heap.size = w.heap.size + 1 + 1 := by simp
  have hz1 : (w.alloc (.cells v.c.toArray 27)).heap.size = w.heap.size + 1 := by simp
  have hbx := Bx.new ((w.alloc (.cells v.c.toArray 27)).alloc (.cells #[.string op, .string ⟨#[]⟩, .slice (some ⟨w.heap.size + 1 + 1, 0, none⟩) 1 1, .int .i64 0] 27)) 27 (v.c)
  rw [hz] at hbx
  have hbr := (Bx.new (w.alloc (.cells v.c.toArray 27)) 27 [.string op, .string ⟨#[]⟩, .slice (some ⟨w.heap.size + 1 + 1, 0, none⟩) 1 1, .int .i64 0]).below (below_alloc _ (.cells (v.c).toArray 27))
  rw [hz1] at hbr
  have hbl : Below w.heap.size w (((w.alloc (.cells v.c.toArray 27)).alloc (.cells #[.string op, .string ⟨#[]⟩, .slice (some ⟨w.heap.size + 1 + 1, 0, none⟩) 1 1, .int .i64 0] 27)).alloc (.cells (v.c).toArray 27)) := below_t (below_t (below_alloc _ _) (below_alloc _ _)) (below_alloc _ _)
  have hfs := fs_un (op := op) hbx (HX.out.below hbl)
  obtain ⟨y0, y1, y2, y3⟩ := hbr.cells4
  clear hz hz1 hbx hbr
  refine bodyPost_ret (v := .agg #[.string op, .string ⟨#[]⟩, .slice (some ⟨w.heap.size + 1 + 1, 0, none⟩) 1 1, .int .i64 0]) (by simp [results, Tryz.results27, go_sem]) rfl ⟨⟨op, ⟨#[]⟩, some ⟨w.heap.size + 1 + 1, 0, none⟩, 1, 1, 0⟩, rfl, hfs, hbl⟩
theorem two_any {op : ByteArray} {x y : Fo} {v u : FV} (w : World) (hx : FS w 27 TT x v.c) (hy : FS w 27 TT y u.c) : Calls Tryz.prog 25 #[.string op, .agg #[.string v.o, .string v.nm, .slice v.A v.ll v.cap, .int .i64 v.p], .agg #[.string u.o, .string u.nm, .slice u.A u.ll u.cap, .int .i64 u.p]] w (FMk (fBin op.data.toList x y) w) := by
  have HX := Lib.hid hx
  have HY := Lib.hid hy
  clear hx hy
  go_enter Tryz.func25, Tryz.ntmps25
  go_wp2
  have hz : (((w.alloc (.cells v.c.toArray 27)).alloc (.cells u.c.toArray 27)).alloc (.cells #[.string op, .string ⟨#[]⟩, .slice (some ⟨w.heap.size + 1 + 1 + 1, 0, none⟩) 2 2, .int .i64 0] 27)).heap.size = w.heap.size + 1 + 1 + 1 := by simp
  have hz1 : ((w.alloc (.cells v.c.toArray 27)).alloc (.cells u.c.toArray 27)).heap.size = w.heap.size + 1 + 1 := by simp
  have hbx := Bx.new (((w.alloc (.cells v.c.toArray 27)).alloc (.cells u.c.toArray 27)).alloc (.cells #[.string op, .string ⟨#[]⟩, .slice (some ⟨w.heap.size + 1 + 1 + 1, 0, none⟩) 2 2, .int .i64 0] 27)) 27 (v.c ++ u.c)
  rw [hz] at hbx
  have hbr := (Bx.new ((w.alloc (.cells v.c.toArray 27)).alloc (.cells u.c.toArray 27)) 27 [.string op, .string ⟨#[]⟩, .slice (some ⟨w.heap.size + 1 + 1 + 1, 0, none⟩) 2 2, .int .i64 0]).below (below_alloc _ (.cells (v.c ++ u.c).toArray 27))
  rw [hz1] at hbr
  have hbl : Below w.heap.size w ((((w.alloc (.cells v.c.toArray 27)).alloc (.cells u.c.toArray 27)).alloc (.cells #[.string op, .string ⟨#[]⟩, .slice (some ⟨w.heap.size + 1 + 1 + 1, 0, none⟩) 2 2, .int .i64 0] 27)).alloc (.cells (v.c ++ u.c).toArray 27)) := below_t (below_t (below_t (below_alloc _ _) (below_alloc _ _)) (below_alloc _ _)) (below_alloc _ _)
  have hfs := fs_bin (op := op) hbx (HX.out.below hbl) (HY.out.below hbl)
  obtain ⟨y0, y1, y2, y3⟩ := hbr.cells4
  clear hz hz1 hbx hbr
  refine bodyPost_ret (v := .agg #[.string op, .string ⟨#[]⟩, .slice (some ⟨w.heap.size + 1 + 1 + 1, 0, none⟩) 2 2, .int .i64 0]) (by simp [results, Tryz.results25, go_sem]) rfl ⟨⟨op, ⟨#[]⟩, some ⟨w.heap.size + 1 + 1 + 1, 0, none⟩, 2, 2, 0⟩, rfl, hfs, hbl⟩
end
end Go.Proofs.YtmgjpjjglghbaaaGreatDoor
