/-
  alive, walked: the chapter's example. A right word of any numbers; walked.
-/
import Derived.Test.YtmgjpjjglghbaaaGreatDoorOI
import Derived.Test.YtmgjpjjglghbaaaGreatDoorLC
import Derived.Test.YtmgjpjjglghbaaaGreatDoorOH
import Derived.Test.YtmgjpjjglghbaaaGreatDoorOC
import Derived.Deep.RegionLaw
import Derived.Deep.AppendLies
namespace Go.Proofs.YtmgjpjjglghbaaaGreatDoor
section
open Go.RowKit Go.Sort Go.Maps

def fG : Fo := .un [71] (.un [70] (.leaf opLab [97] 4) 2) 0
theorem fG_ok : parseF 9 [71, 32, 70, 32, 34, 97, 34] = .ok fG := by decide +kernel
theorem fG_okF : OkF fG := (parse_okf (by decide) fG_ok).1
def nmA : List ByteArray := [⟨#[97]⟩]
theorem fG_hd : hdO nmA fG = true := hd_iff.2 (by simp [fG, lbs, nmA])
theorem sem_fG (σ : Nat → Int) : sem (LN nmA σ) fG 0 ↔ ∀ k, ∃ m, k ≤ m ∧ (σ m).toNat.testBit 0 = true := by
  have h : sem (LN nmA σ) fG 0 ↔ wnt (unt (fun _ => True) (LN nmA σ [97])) (fun _ => False) 0 := by
    simp only [fG, sem, show ([71] : List UInt8) ≠ [33] by decide, show ([71] : List UInt8) ≠ [88] by decide, show ([71] : List UInt8) ≠ [70] by decide, show ([70] : List UInt8) ≠ [33] by decide, show ([70] : List UInt8) ≠ [88] by decide, show opLab ≠ opTrue by decide, if_false, if_true]
  rw [h, wnt_false]
  have hp : posO nmA ⟨([97] : List UInt8).toArray⟩ = 0 := by decide
  constructor
  · intro h k
    obtain ⟨m, h1, h2⟩ := unt_true.1 (h k (Nat.zero_le _))
    refine ⟨m, h1, ?_⟩
    unfold LN at h2
    rw [hp] at h2
    exact h2
  · intro h k _
    obtain ⟨m, h1, h2⟩ := h k
    refine unt_true.2 ⟨m, h1, ?_⟩
    unfold LN
    rw [hp]
    exact h2
theorem wR_one : wR nmA [] [0, 1] := by decide
theorem wR_two : wR nmA [1] [0] := by decide
theorem ho_one : hoV nmA [] [0, 1] fG = true := by
  unfold hoV
  rw [@decide_eq_true_iff _ (Classical.propDecidable _), hv_iff, sem_fG]
  refine ⟨wR_one, fG_hd, fun k => ⟨2 * k + 1, by omega, ?_⟩⟩
  have : wl [] [0, 1] (2 * k + 1) = 1 := by
    rw [wl, if_neg (by simp)]
    show ([0, 1] : List Int).getD ((2 * k + 1 - 0) % 2) 0 = 1
    rw [show (2 * k + 1 - 0) % 2 = 1 by omega]; rfl
  rw [this]; rfl
theorem ho_two : hoV nmA [1] [0] fG = false := by
  unfold hoV
  rw [@decide_eq_false_iff_not _ (Classical.propDecidable _), hv_iff, sem_fG]
  rintro ⟨_, _, h⟩
  obtain ⟨m, h1, h2⟩ := h 1
  have : wl [1] [0] m = 0 := by
    rw [wl, if_neg (by simp; omega)]
    show ([0] : List Int).getD ((m - 1) % 1) 0 = 0
    rw [Nat.mod_one]; rfl
  rw [this] at h2
  exact absurd h2 (by decide)
theorem isl_bx {w : World} {q : Nat} {t : TypeId} {l : List Int} (h : Bx w q t (l.map iv)) : ISl w (some ⟨q, 0, none⟩) l := fun i hi => by
  refine ⟨q, 0, rfl, ?_⟩
  rw [Nat.zero_add, h.cell i, List.getElem?_map, List.getElem?_eq_getElem hi]; rfl
theorem isl_nil {w : World} {A : Option Addr} : ISl w A [] := fun i hi => absurd hi (by simp)
theorem ssl_bxA {w : World} {q : Nat} {t : TypeId} {l : List ByteArray} (h : Bx w q t (l.map Value.string)) : SSl w (some ⟨q, 0, none⟩) l := fun i hi => by
  refine ⟨q, 0, rfl, ?_⟩
  rw [Nat.zero_add, h.cell i, List.getElem?_map, List.getElem?_eq_getElem hi]; rfl
set_option maxHeartbeats 4000000 in
set_option maxRecDepth 100000 in
theorem lalive_yes (w : World) (hG : GlobS w) : Calls Tryz.prog 11 #[] w (LawF w) := by
  have H1 := Lib.hid (fun (W : World) (hW : GlobS W) => (pparse_any (s := ⟨#[71, 32, 70, 32, 34, 97, 34]⟩) (D := 9) W hW (by decide) (by decide) (by decide)))
  have e1 : parseF 9 (⟨#[71, 32, 70, 32, 34, 97, 34]⟩ : ByteArray).data.toList = .ok fG := fG_ok
  rw [e1] at H1
  have HG := Lib.hid hG
  clear hG e1
  go_enter Tryz.func11, Tryz.ntmps11
  go_wp2_with fail
  refine (H1.out w HG.out).mono ?_
  rintro e w1 ⟨⟨o, nm, A, ll, cap, p⟩, rfl, hC, hb1⟩
  have HG1 := Lib.hid (HG.out.below hb1)
  have HB1 := Lib.hid hb1
  have HC1 := Lib.hid (show FS w1 27 _ fG (FV.c ⟨o, nm, A, ll, cap, p⟩) from hC)
  clear hC hb1 H1
  have HF1 := Lib.hid (show FS w1 27 TT fG (FV.c ⟨o, nm, A, ll, cap, p⟩) from FS.wide (fun _ _ _ => trivial) HC1.out)
  have HBX := Lib.hid (show ∀ W, Below (w1.alloc (.cells #[.string o, .string nm, .slice A ll cap, .int .i64 p] 27)).heap.size (w1.alloc (.cells #[.string o, .string nm, .slice A ll cap, .int .i64 p] 27)) W → Bx W w1.heap.size 27 [.string o, .string nm, .slice A ll cap, .int .i64 p] from fun W hW => (Bx.new w1 27 [.string o, .string nm, .slice A ll cap, .int .i64 p]).below hW)
  have hz1 : (w1.alloc (.cells #[.string o, .string nm, .slice A ll cap, .int .i64 p] 27)).heap.size = w1.heap.size + 1 := by simp
  clear HC1
  go_wp2_with fail
  refine calls_gen (P := fun W => (SSl W (some ⟨w1.heap.size + 1, 0, none⟩) nmA ∧ ISl W (some ⟨w1.heap.size + 1 + 1, 0, none⟩) [0, 1]) ∧ Below (w1.alloc (.cells #[.string o, .string nm, .slice A ll cap, .int .i64 p] 27)).heap.size (w1.alloc (.cells #[.string o, .string nm, .slice A ll cap, .int .i64 p] 27)) W) ⟨⟨?_, ?_⟩, below_t (below_alloc _ _) (below_alloc _ _)⟩ ?_
  · have h := (Bx.new (w1.alloc (.cells #[.string o, .string nm, .slice A ll cap, .int .i64 p] 27)) 9 (nmA.map Value.string)).below (below_alloc _ (.cells #[.int .i64 0, .int .i64 1] 3))
    rw [hz1] at h
    exact ssl_bxA h
  · have h := Bx.new ((w1.alloc (.cells #[.string o, .string nm, .slice A ll cap, .int .i64 p] 27)).alloc (.cells #[.string ⟨#[97]⟩] 9)) 3 (([0, 1] : List Int).map iv)
    rw [show ((w1.alloc (.cells #[.string o, .string nm, .slice A ll cap, .int .i64 p] 27)).alloc (.cells #[.string ⟨#[97]⟩] 9)).heap.size = w1.heap.size + 1 + 1 by simp] at h
    exact isl_bx h
  rintro W ⟨⟨hN, hI⟩, hb⟩
  refine (holds_any (nms := nmA) (s := []) (l := [0, 1]) (nc := 1) (sc := 0) (lc := 2) (v := ⟨o, nm, A, ll, cap, p⟩) W hN ⟨isl_nil, hI⟩ ⟨Nat.le_refl _, fun _ => rfl⟩ ⟨Nat.le_refl _, fun h => by cases h⟩ (by decide) (by decide) (by decide) (HF1.out.below (below_t (below_alloc _ _) hb)) fG_okF (by decide)).mono ?_
  rintro e w2 ⟨rfl, hb2⟩
  rw [ho_one, tu_nil wR_one fG_hd]
  have HK2 := Lib.hid (hb.trans (hb2.mono hb.size))
  obtain ⟨f0, f1, f2, f3⟩ := (HBX.out _ HK2.out).cells4
  have hfl := (HBX.out _ HK2.out).lt
  clear hN hI hb hb2
  go_wp2_with fail
  refine calls_gen (P := fun W => (SSl W (some ⟨w2.heap.size, 0, none⟩) nmA ∧ ISl W (some ⟨w2.heap.size + 1, 0, none⟩) [1] ∧ ISl W (some ⟨w2.heap.size + 1 + 1, 0, none⟩) [0]) ∧ Below (w1.alloc (.cells #[.string o, .string nm, .slice A ll cap, .int .i64 p] 27)).heap.size (w1.alloc (.cells #[.string o, .string nm, .slice A ll cap, .int .i64 p] 27)) W) ⟨⟨?_, ?_, ?_⟩, HK2.out.trans ((below_t (below_t (below_alloc _ _) (below_alloc _ _)) (below_alloc _ _)).mono HK2.out.size)⟩ ?_
  · exact ssl_bxA (((Bx.new w2 9 (nmA.map Value.string)).below (below_alloc _ (.cells #[.int .i64 1] 3))).below (below_alloc _ (.cells #[.int .i64 0] 3)))
  · have h := (Bx.new (w2.alloc (.cells #[.string ⟨#[97]⟩] 9)) 3 (([1] : List Int).map iv)).below (below_alloc _ (.cells #[.int .i64 0] 3))
    rw [show (w2.alloc (.cells #[.string ⟨#[97]⟩] 9)).heap.size = w2.heap.size + 1 by simp] at h
    exact isl_bx h
  · have h := Bx.new ((w2.alloc (.cells #[.string ⟨#[97]⟩] 9)).alloc (.cells #[.int .i64 1] 3)) 3 (([0] : List Int).map iv)
    rw [show ((w2.alloc (.cells #[.string ⟨#[97]⟩] 9)).alloc (.cells #[.int .i64 1] 3)).heap.size = w2.heap.size + 1 + 1 by simp] at h
    exact isl_bx h
  rintro W3 ⟨⟨hN, hI, hJ⟩, hb⟩
  refine (holds_any (nms := nmA) (s := [1]) (l := [0]) (nc := 1) (sc := 1) (lc := 1) (v := ⟨o, nm, A, ll, cap, p⟩) W3 hN ⟨hI, hJ⟩ ⟨Nat.le_refl _, fun h => by cases h⟩ ⟨Nat.le_refl _, fun h => by cases h⟩ (by decide) (by decide) (by decide) (HF1.out.below (below_t (below_alloc _ _) hb)) fG_okF (by decide)).mono ?_
  rintro e w4 ⟨rfl, hb4⟩
  rw [ho_two, tu_nil wR_two fG_hd]
  have HK4 := Lib.hid (hb.trans (hb4.mono hb.size))
  clear hN hI hJ hb hb4 f0 f1 f2 f3 hfl
  have HB4 := Lib.hid (HB1.out.trans ((below_t (below_alloc _ _) HK4.out).mono HB1.out.size))
  have HCK := Lib.hid (check_any (N := none) (A := none) (B := none) (nms := []) (s := []) (l := []) (nc := 0) (sc := 0) (lc := 0) w4 (fun i hi => absurd hi (by simp)) ⟨isl_nil, isl_nil⟩ (by decide) (by decide) (by decide))
  rw [if_neg (show ¬ wR [] [] [] by decide)] at HCK
  go_wp2_with fail
  refine (HCK.out).mono ?_
  rintro e w5 ⟨rfl, hb5⟩
  have HB5 := Lib.hid (HB4.out.trans (hb5.mono HB4.out.size))
  have HGG := Lib.hid ((HG.out.below HB5.out).glob)
  clear hb5
  go_wp2_with fail
  refine (num_errno 1 w5 HGG.out).mono ?_
  rintro e w6 ⟨rfl, hb6⟩
  have HB6 := Lib.hid (HB5.out.trans (hb6.mono HB5.out.size))
  clear hb6
  go_wp2
  go_ret
  exact ⟨rfl, HB6.out⟩
end
section
open Go.RowKit Go.Sort Go.Lib

def USl (w : World) (A : Option Addr) (l : List Int) : Prop := ∀ i (hi : i < l.length), ∃ g o, A = some ⟨g, o, none⟩ ∧ w.cell? ⟨g, o + i, none⟩ = some (.int .u8 l[i]) ∧ 0 ≤ l[i] ∧ l[i] ≤ 255
theorem USl.below {w w' : World} {A : Option Addr} {l : List Int} (h : USl w A l) (hb : Below w.heap.size w w') : USl w' A l := fun i hi => by
  obtain ⟨g, o, h1, h2, h3⟩ := h i hi
  exact ⟨g, o, h1, cell_blw hb h2, h3⟩
theorem own_neW {w : World} {lo k : Nat} {e : TypeId} {sz n : Nat} {v : Value} {cs : List Value} (h : w.ownsRow lo e sz v n cs) (hk : k < lo) : some k ≠ v.ownBlock := by
  intro e1
  have := (h.lt k e1.symm).1
  omega
def GW (s : List Int) : Prop := ∀ x ∈ s, 0 ≤ x ∧ x < 8
structure Upd (w0 : World) (q : Nat) (wr : World) : Prop where
  os : wr.os = w0.os
  tape : wr.tape = w0.tape
  output : wr.output = w0.output
  size : w0.heap.size ≤ wr.heap.size
  block : ∀ j, j < w0.heap.size → j ≠ q → wr.heap[j]? = w0.heap[j]?
theorem Upd.below {w w0 wr : World} {q : Nat} (h : Upd w0 q wr) (hb : Below w.heap.size w w0) (hq : w.heap.size ≤ q) : Below w.heap.size w wr := ⟨h.os.trans hb.os, h.tape.trans hb.tape, h.output.trans hb.output, by have := hb.size; have := h.size; omega, fun j hj => (h.block j (by have := hb.size; omega) (by omega)).trans (hb.block j hj)⟩
theorem isl_set1 {W : World} {q n : Nat} {P : Option Addr} {l : List Int} {u : Value} (h : ISl W P l) (hq : ∀ g o, P = some ⟨g, o, none⟩ → q ≠ g) : ISl (W.setCell ⟨q, n, none⟩ u) P l := fun i hi => by
  obtain ⟨g, o, h1, h2⟩ := h i hi
  have hne := hq g o h1
  refine ⟨g, o, h1, ?_⟩
  rw [World.cell?_setCell_other _ _ _ _ (by first | (simp; done) | (simp; omega))]
  exact h2
def WRl (w0 : World) (q : Nat) (f : Value → List Value) (N : Nat) (i : Value) (wr : World) : Prop :=
  ∃ (k : Nat) (A : Option Addr) (cap : Nat) (s : List Int), i = .int .i64 (k : Int) ∧ s.length = k ∧ k ≤ N ∧ k ≤ 8 ∧ GW s ∧ Bx wr q 42 (f (.slice A k cap)) ∧ wr.ownsRow w0.heap.size 3 1 (.slice A k cap) k (s.map iv) ∧ Upd w0 q wr
theorem wr_step {w0 wr w5 : World} {q N k n : Nat} {A : Option Addr} {cap cap5 g5 : Nat} {s : List Int} {f : Value → List Value} {L : List Value} {x v : Int} {ob : Obj} (hv : v = (k : Int) + 1) (hq : q < w0.heap.size) (hkN : k < N) (hk8 : k < 8) (hg : GW s) (hx : 0 ≤ x ∧ x < 8) (hlen : s.length = k)
    (hU : Upd w0 q wr) (hO : wr.ownsRow w0.heap.size 3 1 (.slice A k cap) k (s.map iv)) (hO5 : w5.ownsRow w0.heap.size 3 1 (.slice (some ⟨g5, 0, none⟩) (k + 1) cap5) (k + 1) (s.map iv ++ [iv x])) (hg5 : (wr.drew.alloc ob).grownBy w5 (Value.slice A k cap).ownBlock)
    (hB5 : Bx w5 q 42 L) (hs : L.set n (.slice (some ⟨g5, 0, none⟩) (k + 1) cap5) = f (.slice (some ⟨g5, 0, none⟩) (k + 1) cap5)) :
    WRl w0 q f N (.int .i64 v) (w5.setCell ⟨q, n, none⟩ (.slice (some ⟨g5, 0, none⟩) (k + 1) cap5)) := by
  subst hv
  have hz := hU.size
  have hz5 : wr.heap.size + 1 ≤ w5.heap.size := by have := hg5.size; simpa using this
  refine ⟨k + 1, some ⟨g5, 0, none⟩, cap5, s ++ [x], by go_num, by simp [hlen], hkN, hk8, fun y hy => ?_, ?_, ?_, ?_⟩
  · rcases List.mem_append.1 hy with hy | hy
    · exact hg y hy
    · rw [List.mem_singleton.1 hy]; exact hx
  · rw [← hs]; exact hB5.set n _
  · rw [List.map_append]
    refine World.ownsRow.kept (w := w5) (row := some q) (w' := w5.setCell ⟨q, n, none⟩ (.slice (some ⟨g5, 0, none⟩) (k + 1) cap5)) hO5 ⟨rfl, rfl, rfl, by simp, fun k _ hn => Below.heap_setCell w5 ⟨q, n, none⟩ _ k (fun e => hn (by rw [e]))⟩ (.inr ?_)
    intro e
    have := (hO5.lt g5 rfl).1
    have : g5 = q := by simpa [Value.ownBlock] using e
    omega
  · refine ⟨hg5.os.trans hU.os, hg5.tape.trans hU.tape, hg5.output.trans hU.output, by simp; omega, fun j hj hn => ?_⟩
    rw [Below.heap_setCell w5 ⟨q, n, none⟩ _ j hn, hg5.block j (by simp; omega) (fun e => by have := (hO.lt j e.symm).1; omega), Below.heap_alloc _ ob j (by simp; omega)]
    exact hU.block j hj hn
/-- What Word leaves: a right word. -/
def WdP (w : World) (e : Ending) (w' : World) : Prop := ∃ s l, GW s ∧ GW l ∧ l ≠ [] ∧ s.length ≤ 8 ∧ l.length ≤ 8 ∧ LaP s l w e w'
set_option maxHeartbeats 4000000 in
set_option maxRecDepth 100000 in
theorem word_any {A B : Option Addr} {a b : List Int} {ac bc N M : Nat} (w : World) (hA : USl w A a) (hB : USl w B b) (hN : a.length = N) (hM : b.length = M) :
    Calls Tryz.prog 21 #[.slice A N ac, .slice B M bc, .int .i64 3] w (WdP w) := by
  obtain ⟨i0, hi0, hz⟩ := Option.map_eq_some_iff.1 infoI
  simp only [Prod.mk.injEq] at hz
  obtain ⟨hz0, hz1, hz2⟩ := hz
  have HI := Lib.hid hi0
  have HZ0 := Lib.hid hz0
  have HZ1 := Lib.hid hz1
  have HZ2 := Lib.hid hz2
  have HA := Lib.hid hA
  have HB := Lib.hid hB
  have HN := Lib.hid hN
  have HM := Lib.hid hM
  clear hi0 hz0 hz1 hz2 hA hB hN hM
  go_enter Tryz.func21, Tryz.ntmps21
  go_wp2
  go_loopw [8] (fun i wr => WRl ((w.alloc (.cells #[.slice none 0 0, .slice none 0 0] 42)).alloc (.cells #[.slice none 0 0, .slice none 0 0] 42)) (w.heap.size + 1) (fun v => [v, .slice none 0 0]) N i wr) (fun i _ => N - (intOf i).toNat)
  case atStart =>
    refine ⟨0, none, 0, [], rfl, rfl, Nat.zero_le _, Nat.zero_le _, (fun x (hx : x ∈ ([] : List Int)) => nomatch hx), ?_, World.ownsRow_nil _ _ _ _, ⟨rfl, rfl, rfl, Nat.le_refl _, fun _ _ _ => rfl⟩⟩
    exact Bx.newAt (w := w.alloc (.cells #[.slice none 0 0, .slice none 0 0] 42)) (by simp) 42 [.slice none 0 0, .slice none 0 0]
  case round =>
    obtain ⟨k, P, cap, s, rfl, hs, hk, hk8, hg, hX, hO, hU⟩ := hrel
    by_cases hlt : k < N ∧ k < 8
    · have e1 : decide ((k : Int) < (N : Int)) = true := by simp; omega
      have e2 : decide ((k : Int) < 8) = true := by simp; omega
      have e1' : decide (k < N) = true := by simp; omega
      have e2' : decide (k < 8) = true := by simp; omega
      have hbw : Below w.heap.size w wr := hU.below (below_t (below_alloc _ _) (below_alloc _ _)) (Nat.le_succ _)
      obtain ⟨g, o, rfl, hc, hb0, hb1⟩ := (HA.out.below hbw) k (by rw [HN.out]; exact hlt.1)
      obtain ⟨x, hx⟩ : ∃ x, x = a[k]'(by rw [HN.out]; exact hlt.1) := ⟨_, rfl⟩
      rw [← hx] at hc hb0 hb1
      have d0 := hX.cell 0
      simp only [List.getElem?_cons_zero] at d0
      have f0 := hX.frozen 0
      have hql := hX.lt
      have HX := Lib.hid hX
      have HO := Lib.hid hO
      have HU := Lib.hid hU
      have HG := Lib.hid hg
      have HS := Lib.hid hs
      clear hX hO hU hg hx hs
      go_wp2_with fail
      have c1 : IntKind.u64.wrap 3 = 3 := by decide
      have c2 : IntKind.i64.wrap (2 ^ min (Int.toNat 3) 64) = 8 := by decide
      have c5 : IntKind.i64.wrap 8 = 8 := by decide
      have c3 : IntKind.i64.wrap x = x := by rw [IntKind.wrap_i64]; omega
      obtain ⟨y, hy⟩ : ∃ y, y = x.tmod 8 := ⟨_, rfl⟩
      have hy0 : 0 ≤ y ∧ y < 8 := by rw [hy, Int.tmod_eq_emod_of_nonneg hb0]; omega
      have c4 : x.tmod 8 = y := hy.symm
      clear hy
      go_region_law (first
        | (refine step_append_lies (wr.drew.alloc (.cells #[.int .i64 y] 3)) rfl (.tmp 22) (.tmp 32) 23 rfl ((w.alloc (.cells #[.slice none 0 0, .slice none 0 0] 42)).alloc (.cells #[.slice none 0 0, .slice none 0 0] 42)).heap.size 3 i0 (.int .i64 0) 1 8 Tryz.underlying23 HI.out HZ0.out HZ1.out HZ2.out rfl (by decide) (.slice P k cap) k (s.map iv) ?_ ?_ ⟨wr.heap.size, 0, none⟩ 1 1 [iv y] ?_ rfl ?_ ?_ (by omega) (by unfold maxLen; omega) (by omega) ?_ (wr.heap.size + 1) (by simp) ?_
           · simp [Act.eval]
           · exact owns_blw HO.out (below_t (Below.refl _ _).drew (below_alloc _ _))
           · simp [Act.eval]
           · exact Go.World.news_of_block (cs := #[.int .i64 y]) (heap_alloc_new wr.drew _)
           · exact iv_one [y]
           · have := HU.out.size; simp at this; simp; omega
           intro g5 cap5 w5 ho5 hg5 hat5 hlt5
           have hb5 : Bx w5 (w.heap.size + 1) 42 [.slice P k cap, .slice none 0 0] := (hg5.block (w.heap.size + 1) (by simp; omega) (own_neW HO.out (by simp; try omega))).trans ((HX.out.below (Below.refl _ _).drew).alloc _)
           have d0 := hb5.cell 0
           simp only [List.getElem?_cons_zero] at d0
           have f0 := hb5.frozen 0
           have hql5 := hb5.lt
           have HB5 := Lib.hid hb5
           have HG5 := Lib.hid hg5
           have HO5 := Lib.hid ho5
           clear hb5 hg5 ho5 hat5))
      all_goals
        have HRL := Lib.hid (wr_step (v := (k : Int) + 1) (x := y) (n := 0) (f := fun v => [v, .slice none 0 0]) rfl (by simp) hlt.1 hlt.2 HG.out hy0 HS.out HU.out HO.out HO5.out HG5.out HB5.out rfl)
        go_wp2
        go_roundw
        case rel => exact HRL.out
        case measure => simp [intOf]; omega
    · have hbw : Below w.heap.size w wr := hU.below (below_t (below_alloc _ _) (below_alloc _ _)) (Nat.le_succ _)
      have hzr : Bx wr w.heap.size 42 [.slice none 0 0, .slice none 0 0] := by
        have h1 := hU.block w.heap.size (by simp; omega) (by omega)
        exact h1.trans ((Bx.new w 42 [.slice none 0 0, .slice none 0 0]).alloc _)
      have HP := Lib.hid hO
      have HX1 := Lib.hid hX
      have HW1 := Lib.hid hbw
      have HZR := Lib.hid hzr
      have HG1 := Lib.hid hg
      have HS1 := Lib.hid hs
      have hul := hU.size
      simp only [World.size_alloc] at hul
      have hst : (decide ((k : Int) < (N : Int)) = false ∧ decide (k < N) = false) ∨ (decide ((k : Int) < (N : Int)) = true ∧ decide (k < N) = true ∧ decide ((k : Int) < 8) = false ∧ decide (k < 8) = false) := by
        by_cases h1 : k < N
        · right
          exact ⟨by simp; omega, by simp; omega, by simp; omega, by simp; omega⟩
        · left
          exact ⟨by simp; omega, by simp; omega⟩
      clear hlt hX hO hU hg hs hbw hzr
      obtain ⟨w1, hw1⟩ : ∃ w1, w1 = wr := ⟨_, rfl⟩
      subst hw1
      rcases hst with ⟨e1, e2⟩ | ⟨e1, e2, e3, e4⟩
      all_goals
        go_wp2
        go_loopw [9] (fun i wr => WRl w1 (w.heap.size + 1) (fun v => [.slice P k cap, v]) M i wr) (fun i _ => M - (intOf i).toNat)
        case atStart =>
          refine ⟨0, none, 0, [], rfl, rfl, Nat.zero_le _, Nat.zero_le _, (fun x (hx : x ∈ ([] : List Int)) => nomatch hx), HX1.out, World.ownsRow_nil _ _ _ _, ⟨rfl, rfl, rfl, Nat.le_refl _, fun _ _ _ => rfl⟩⟩
        case round =>
          obtain ⟨r, R, rc, t, rfl, ht, hr, hr8, hg, hX, hO, hU⟩ := hrel
          have hbw : Below w.heap.size w wr := hU.below HW1.out (Nat.le_succ _)
          have hul2 := hU.size
          by_cases hlt : r < M ∧ r < 8
          · have p1 : decide ((r : Int) < (M : Int)) = true := by simp; omega
            have p2 : decide ((r : Int) < 8) = true := by simp; omega
            have p1' : decide (r < M) = true := by simp; omega
            have p2' : decide (r < 8) = true := by simp; omega
            obtain ⟨g, o, rfl, hc, hb0, hb1⟩ := (HB.out.below hbw) r (by rw [HM.out]; exact hlt.1)
            obtain ⟨x, hx⟩ : ∃ x, x = b[r]'(by rw [HM.out]; exact hlt.1) := ⟨_, rfl⟩
            rw [← hx] at hc hb0 hb1
            have d1 := hX.cell 1
            simp only [List.getElem?_cons_zero, List.getElem?_cons_succ] at d1
            have f1 := hX.frozen 1
            have hql := hX.lt
            have HX := Lib.hid hX
            have HO := Lib.hid hO
            have HU := Lib.hid hU
            have HG := Lib.hid hg
            have HT := Lib.hid ht
            clear hX hO hU hg hx ht hbw
            go_wp2_with fail
            have c1 : IntKind.u64.wrap 3 = 3 := by decide
            have c2 : IntKind.i64.wrap (2 ^ min (Int.toNat 3) 64) = 8 := by decide
            have c5 : IntKind.i64.wrap 8 = 8 := by decide
            have c3 : IntKind.i64.wrap x = x := by rw [IntKind.wrap_i64]; omega
            obtain ⟨y, hy⟩ : ∃ y, y = x.tmod 8 := ⟨_, rfl⟩
            have hy0 : 0 ≤ y ∧ y < 8 := by rw [hy, Int.tmod_eq_emod_of_nonneg hb0]; omega
            have c4 : x.tmod 8 = y := hy.symm
            clear hy
            go_region_law (first
              | (refine step_append_lies (wr.drew.alloc (.cells #[.int .i64 y] 3)) rfl (.tmp 46) (.tmp 56) 23 rfl w1.heap.size 3 i0 (.int .i64 0) 1 8 Tryz.underlying23 HI.out HZ0.out HZ1.out HZ2.out rfl (by decide) (.slice R r rc) r (t.map iv) ?_ ?_ ⟨wr.heap.size, 0, none⟩ 1 1 [iv y] ?_ rfl ?_ ?_ (by omega) (by unfold maxLen; omega) (by omega) ?_ (wr.heap.size + 1) (by simp) ?_
                 · simp [Act.eval]
                 · exact owns_blw HO.out (below_t (Below.refl _ _).drew (below_alloc _ _))
                 · simp [Act.eval]
                 · exact Go.World.news_of_block (cs := #[.int .i64 y]) (heap_alloc_new wr.drew _)
                 · exact iv_one [y]
                 · have := HU.out.size; simp; omega
                 intro g5 cap5 w5 ho5 hg5 hat5 hlt5
                 have hb5 : Bx w5 (w.heap.size + 1) 42 [.slice P k cap, .slice R r rc] := (hg5.block (w.heap.size + 1) (by simp; omega) (own_neW HO.out (by omega))).trans ((HX.out.below (Below.refl _ _).drew).alloc _)
                 have d1 := hb5.cell 1
                 simp only [List.getElem?_cons_zero, List.getElem?_cons_succ] at d1
                 have f1 := hb5.frozen 1
                 have hql5 := hb5.lt
                 have HB5 := Lib.hid hb5
                 have HG5 := Lib.hid hg5
                 have HO5 := Lib.hid ho5
                 clear hb5 hg5 ho5 hat5))
            all_goals
              have HRL := Lib.hid (wr_step (v := (r : Int) + 1) (x := y) (n := 1) (f := fun v => [.slice P k cap, v]) rfl (by omega) hlt.1 hlt.2 HG.out hy0 HT.out HU.out HO.out HO5.out HG5.out HB5.out rfl)
              go_wp2
              go_roundw
              case rel => exact HRL.out
              case measure => simp [intOf]; omega
          · have hzr2 : Bx wr w.heap.size 42 [.slice none 0 0, .slice none 0 0] := (hU.block w.heap.size (by omega) (by omega)).trans HZR.out
            have hP2 := World.ownsRow.kept (w := w1) (w' := wr) (row := some (w.heap.size + 1)) HP.out ⟨hU.os, hU.tape, hU.output, hU.size, fun j hj hn => hU.block j hj (fun e => hn (by rw [e]))⟩ (.inr (fun e => own_neW HP.out (k := w.heap.size + 1) (by simp) e.symm))
            have hPf := own_far hP2
            have hRf := own_far hO
            obtain ⟨P', c', hpe, hPc, hPi, _⟩ := isl_owns hP2
            injection hpe with hpe1 _ hpe2
            subst hpe1 hpe2
            obtain ⟨R', c2, hre, hRc, hRi, _⟩ := isl_owns hO
            injection hre with hre1 _ hre2
            subst hre1 hre2
            simp only [World.size_alloc] at hPf
            have a0 := hX.cell 0
            have a1 := hX.cell 1
            have b0 := hzr2.cell 0
            have b1 := hzr2.cell 1
            simp only [List.getElem?_cons_zero, List.getElem?_cons_succ] at a0 a1 b0 b1
            have af1 := hX.frozen 1
            have bf0 := hzr2.frozen 0
            have bf1 := hzr2.frozen 1
            have al := hX.lt
            have bl := hzr2.lt
            have hst2 : (decide ((r : Int) < (M : Int)) = false ∧ decide (r < M) = false) ∨ (decide ((r : Int) < (M : Int)) = true ∧ decide (r < M) = true ∧ decide ((r : Int) < 8) = false ∧ decide (r < 8) = false) := by
              by_cases h1 : r < M
              · right
                exact ⟨by simp; omega, by simp; omega, by simp; omega, by simp; omega⟩
              · left
                exact ⟨by simp; omega, by simp; omega⟩
            by_cases hr0 : r = 0
            · have hM0 : M = 0 := by omega
              subst hr0 hM0
              have hfin : WdP w (.returned (.agg #[.slice P k cap, .slice (some ⟨wr.heap.size, 0, none⟩) 1 1])) ((((wr.setCell ⟨w.heap.size + 1, 1, none⟩ (.slice (some ⟨wr.heap.size, 0, none⟩) 1 1)).setCell ⟨w.heap.size, 0, none⟩ (.slice P k cap)).setCell ⟨w.heap.size, 1, none⟩ (.slice (some ⟨wr.heap.size, 0, none⟩) 1 1)).alloc (.cells #[.int .i64 0] 3)) := by
                refine ⟨s, [0], HG1.out, fun y hy => by rw [List.mem_singleton.1 hy]; omega, by simp, by rw [HS1.out]; exact hk8, by simp, P, k, cap, _, 1, 1, rfl, HS1.out, rfl, ⟨?_, ?_⟩, hPc, ⟨Nat.le_refl _, fun h => by cases h⟩, ?_⟩
                · refine ISl.below (isl_set2 (q := w.heap.size) (isl_set1 (q := w.heap.size + 1) hPi (fun g o e => ?_)) (fun g o e => ?_)) (below_alloc _ _)
                  · have := hPf g o e; omega
                  · have := hPf g o e; omega
                · exact isl_bx (t := 3) (Bx.newAt (by simp) 3 (([0] : List Int).map iv))
                · exact below_t (below_set2 (hbw.setCell (p := ⟨w.heap.size + 1, 1, none⟩) (Nat.le_succ _) _) (Nat.le_refl _)) (below_alloc _ _)
              have HF := Lib.hid hfin
              have hy := la_set (u0 := .slice P k cap) (u1 := .slice (some ⟨wr.heap.size, 0, none⟩) 1 1) (hzr2.far (p := ⟨w.heap.size + 1, 1, none⟩) (by simp) (.slice (some ⟨wr.heap.size, 0, none⟩) 1 1))
              replace hy := hy.alloc (.cells #[.int .i64 0] 3)
              have y0 := hy.cell 0
              have y1 := hy.cell 1
              simp only [List.getElem?_cons_zero, List.getElem?_cons_succ] at y0 y1
              clear hX hO hU hg ht hbw hzr2 hP2 hPf hRf hPi hRi hPc hRc hfin hy
              rcases hst2 with ⟨p1, p2⟩ | ⟨p1, p2, p3, p4⟩
              · go_wp2
                refine bodyPost_ret (v := .agg #[.slice P k cap, .slice (some ⟨wr.heap.size, 0, none⟩) 1 1]) (by simp [results, Tryz.results21, go_sem, y0, y1]) rfl HF.out
              · simp at p1
            · have d4 : ((r : Int) == 0) = false := by simp; omega
              have d5 : ¬ r = 0 := hr0
              have hfin : WdP w (.returned (.agg #[.slice P k cap, .slice R r rc])) ((wr.setCell ⟨w.heap.size, 0, none⟩ (.slice P k cap)).setCell ⟨w.heap.size, 1, none⟩ (.slice R r rc)) := by
                refine ⟨s, t, HG1.out, hg, fun h => hr0 (by rw [← ht, h]; rfl), by rw [HS1.out]; exact hk8, by rw [ht]; exact hr8, P, k, cap, R, r, rc, rfl, HS1.out, ht, ⟨isl_set2 (q := w.heap.size) hPi (fun g o e => ?_), isl_set2 (q := w.heap.size) hRi (fun g o e => ?_)⟩, hPc, hRc, below_set2 hbw (Nat.le_refl _)⟩
                · have := hPf g o e; omega
                · have := hRf g o e; omega
              have HF := Lib.hid hfin
              have hy := la_set (u0 := .slice P k cap) (u1 := .slice R r rc) hzr2
              have y0 := hy.cell 0
              have y1 := hy.cell 1
              simp only [List.getElem?_cons_zero, List.getElem?_cons_succ] at y0 y1
              clear hX hO hU hg ht hbw hzr2 hP2 hPf hRf hPi hRi hPc hRc hfin hy
              rcases hst2 with ⟨p1, p2⟩ | ⟨p1, p2, p3, p4⟩
              all_goals
                go_wp2
                refine bodyPost_ret (v := .agg #[.slice P k cap, .slice R r rc]) (by simp [results, Tryz.results21, go_sem, y0, y1]) rfl HF.out
end
end Go.Proofs.YtmgjpjjglghbaaaGreatDoor
