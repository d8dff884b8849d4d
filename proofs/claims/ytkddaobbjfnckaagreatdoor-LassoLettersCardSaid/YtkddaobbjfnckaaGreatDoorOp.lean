/-
  alive, walked: the chapter's example.
-/
import Derived.Test.YtkddaobbjfnckaaGreatDoorOn
import Derived.Test.YtkddaobbjfnckaaGreatDoorLC
import Derived.Test.YtkddaobbjfnckaaGreatDoorOl
namespace Go.Proofs.YtkddaobbjfnckaaGreatDoor
open Go.RowKit Go.Sort Go.Maps

def fG : Fo := .un [71] (.un [70] (.leaf opLab [97] 4) 2) 0
theorem fG_ok : parseF 9 [71, 32, 70, 32, 34, 97, 34] = .ok fG := by decide +kernel
theorem fG_okF : OkF fG := (parse_okf (by decide) fG_ok).1
def nmA : List ByteArray := [⟨#[97]⟩]
theorem fG_hd : hdO nmA fG = true := hd_iff.2 (by simp [fG, lbs, nmA])
theorem sem_fG (σ : Nat → Int) : sem (LN nmA σ) fG 0 ↔ ∀ k, ∃ m, k ≤ m ∧ (σ m).toNat.testBit 0 = true := by
  have h : sem (LN nmA σ) fG 0 ↔ wnt (unt (fun _ => True) (LN nmA σ [97])) (fun _ => False) 0 := by
    simp only [fG, sem, show ([71] : List UInt8) ≠ [33] by decide, show ([71] : List UInt8) ≠ [88] by decide, show ([71] : List UInt8) ≠ [70] by decide, show ([70] : List UInt8) ≠ [33] by decide, show ([70] : List UInt8) ≠ [88] by decide, show opLab ≠ opTrue by decide, if_false, if_true]
  rw [h, wnt_false]
  have hp : posO nmA ⟨([97] : List UInt8).toArray⟩ = 0 := by decide
  constructor
  · intro h k
    obtain ⟨m, h1, h2⟩ := unt_true.1 (h k (Nat.zero_le _))
    refine ⟨m, h1, ?_⟩
    unfold LN at h2
    rw [hp] at h2
    exact h2
  · intro h k _
    obtain ⟨m, h1, h2⟩ := h k
    refine unt_true.2 ⟨m, h1, ?_⟩
    unfold LN
    rw [hp]
    exact h2
theorem wR_one : wR nmA [] [0, 1] := by decide
theorem wR_two : wR nmA [1] [0] := by decide
theorem ho_one : hoV nmA [] [0, 1] fG = true := by
  unfold hoV
  rw [@decide_eq_true_iff _ (Classical.propDecidable _), hv_iff, sem_fG]
  refine ⟨wR_one, fG_hd, fun k => ⟨2 * k + 1, by omega, ?_⟩⟩
  have : wl [] [0, 1] (2 * k + 1) = 1 := by
    rw [wl, if_neg (by simp)]
    show ([0, 1] : List Int).getD ((2 * k + 1 - 0) % 2) 0 = 1
    rw [show (2 * k + 1 - 0) % 2 = 1 by omega]; rfl
  rw [this]; rfl
theorem ho_two : hoV nmA [1] [0] fG = false := by
  unfold hoV
  rw [@decide_eq_false_iff_not _ (Classical.propDecidable _), hv_iff, sem_fG]
  rintro ⟨_, _, h⟩
  obtain ⟨m, h1, h2⟩ := h 1
  have : wl [1] [0] m = 0 := by
    rw [wl, if_neg (by simp; omega)]
    show ([0] : List Int).getD ((m - 1) % 1) 0 = 0
    rw [Nat.mod_one]; rfl
  rw [this] at h2
  exact absurd h2 (by decide)
theorem isl_bx {w : World} {q : Nat} {t : TypeId} {l : List Int} (h : Bx w q t (l.map iv)) : ISl w (some ⟨q, 0, none⟩) l := fun i hi => by
  refine ⟨q, 0, rfl, ?_⟩
  rw [Nat.zero_add, h.cell i, List.getElem?_map, List.getElem?_eq_getElem hi]; rfl
theorem isl_nil {w : World} {A : Option Addr} : ISl w A [] := fun i hi => absurd hi (by simp)
theorem ssl_bxA {w : World} {q : Nat} {t : TypeId} {l : List ByteArray} (h : Bx w q t (l.map Value.string)) : SSl w (some ⟨q, 0, none⟩) l := fun i hi => by
  refine ⟨q, 0, rfl, ?_⟩
  rw [Nat.zero_add, h.cell i, List.getElem?_map, List.getElem?_eq_getElem hi]; rfl
set_option maxHeartbeats 4000000 in
set_option maxRecDepth 100000 in
theorem lalive_yes (w : World) (hG : GlobS w) : Calls Tryz.prog 8 #[] w (LawF w) := by
  have H1 := Lib.hid (fun (W : World) (hW : GlobS W) => (pparse_any (s := ⟨#[71, 32, 70, 32, 34, 97, 34]⟩) (D := 9) W hW (by decide) (by decide) (by decide)))
  have e1 : parseF 9 (⟨#[71, 32, 70, 32, 34, 97, 34]⟩ : ByteArray).data.toList = .ok fG := fG_ok
  rw [e1] at H1
  have HG := Lib.hid hG
  clear hG e1
  go_enter Tryz.func8, Tryz.ntmps8
  go_wp2_with fail
  refine (H1.out w HG.out).mono ?_
  rintro e w1 ⟨⟨o, nm, A, ll, cap, p⟩, rfl, hC, hb1⟩
  have HG1 := Lib.hid (HG.out.below hb1)
  have HB1 := Lib.hid hb1
  have HC1 := Lib.hid (show FS w1 27 _ fG (FV.c ⟨o, nm, A, ll, cap, p⟩) from hC)
  clear hC hb1 H1
  have HF1 := Lib.hid (show FS w1 27 TT fG (FV.c ⟨o, nm, A, ll, cap, p⟩) from FS.wide (fun _ _ _ => trivial) HC1.out)
  have HBX := Lib.hid (show ∀ W, Below (w1.alloc (.cells #[.string o, .string nm, .slice A ll cap, .int .i64 p] 27)).heap.size (w1.alloc (.cells #[.string o, .string nm, .slice A ll cap, .int .i64 p] 27)) W → Bx W w1.heap.size 27 [.string o, .string nm, .slice A ll cap, .int .i64 p] from fun W hW => (Bx.new w1 27 [.string o, .string nm, .slice A ll cap, .int .i64 p]).below hW)
  have hz1 : (w1.alloc (.cells #[.string o, .string nm, .slice A ll cap, .int .i64 p] 27)).heap.size = w1.heap.size + 1 := by simp
  clear HC1
  go_wp2_with fail
  refine calls_gen (P := fun W => (SSl W (some ⟨w1.heap.size + 1, 0, none⟩) nmA ∧ ISl W (some ⟨w1.heap.size + 1 + 1, 0, none⟩) [0, 1]) ∧ Below (w1.alloc (.cells #[.string o, .string nm, .slice A ll cap, .int .i64 p] 27)).heap.size (w1.alloc (.cells #[.string o, .string nm, .slice A ll cap, .int .i64 p] 27)) W) ⟨⟨?_, ?_⟩, below_t (below_alloc _ _) (below_alloc _ _)⟩ ?_
  · have h := (Bx.new (w1.alloc (.cells #[.string o, .string nm, .slice A ll cap, .int .i64 p] 27)) 9 (nmA.map Value.string)).below (below_alloc _ (.cells #[.int .i64 0, .int .i64 1] 3))
    rw [hz1] at h
    exact ssl_bxA h
  · have h := Bx.new ((w1.alloc (.cells #[.string o, .string nm, .slice A ll cap, .int .i64 p] 27)).alloc (.cells #[.string ⟨#[97]⟩] 9)) 3 (([0, 1] : List Int).map iv)
    rw [show ((w1.alloc (.cells #[.string o, .string nm, .slice A ll cap, .int .i64 p] 27)).alloc (.cells #[.string ⟨#[97]⟩] 9)).heap.size = w1.heap.size + 1 + 1 by simp] at h
    exact isl_bx h
  rintro W ⟨⟨hN, hI⟩, hb⟩
  refine (holds_any (nms := nmA) (s := []) (l := [0, 1]) (nc := 1) (sc := 0) (lc := 2) (v := ⟨o, nm, A, ll, cap, p⟩) W hN ⟨isl_nil, hI⟩ ⟨Nat.le_refl _, fun _ => rfl⟩ ⟨Nat.le_refl _, fun h => by cases h⟩ (by decide) (by decide) (by decide) (HF1.out.below (below_t (below_alloc _ _) hb)) fG_okF (by decide)).mono ?_
  rintro e w2 ⟨rfl, hb2⟩
  rw [ho_one, tu_nil wR_one fG_hd]
  have HK2 := Lib.hid (hb.trans (hb2.mono hb.size))
  obtain ⟨f0, f1, f2, f3⟩ := (HBX.out _ HK2.out).cells4
  have hfl := (HBX.out _ HK2.out).lt
  clear hN hI hb hb2
  go_wp2_with fail
  refine calls_gen (P := fun W => (SSl W (some ⟨w2.heap.size, 0, none⟩) nmA ∧ ISl W (some ⟨w2.heap.size + 1, 0, none⟩) [1] ∧ ISl W (some ⟨w2.heap.size + 1 + 1, 0, none⟩) [0]) ∧ Below (w1.alloc (.cells #[.string o, .string nm, .slice A ll cap, .int .i64 p] 27)).heap.size (w1.alloc (.cells #[.string o, .string nm, .slice A ll cap, .int .i64 p] 27)) W) ⟨⟨?_, ?_, ?_⟩, HK2.out.trans ((below_t (below_t (below_alloc _ _) (below_alloc _ _)) (below_alloc _ _)).mono HK2.out.size)⟩ ?_
  · exact ssl_bxA (((Bx.new w2 9 (nmA.map Value.string)).below (below_alloc _ (.cells #[.int .i64 1] 3))).below (below_alloc _ (.cells #[.int .i64 0] 3)))
  · have h := (Bx.new (w2.alloc (.cells #[.string ⟨#[97]⟩] 9)) 3 (([1] : List Int).map iv)).below (below_alloc _ (.cells #[.int .i64 0] 3))
    rw [show (w2.alloc (.cells #[.string ⟨#[97]⟩] 9)).heap.size = w2.heap.size + 1 by simp] at h
    exact isl_bx h
  · have h := Bx.new ((w2.alloc (.cells #[.string ⟨#[97]⟩] 9)).alloc (.cells #[.int .i64 1] 3)) 3 (([0] : List Int).map iv)
    rw [show ((w2.alloc (.cells #[.string ⟨#[97]⟩] 9)).alloc (.cells #[.int .i64 1] 3)).heap.size = w2.heap.size + 1 + 1 by simp] at h
    exact isl_bx h
  rintro W3 ⟨⟨hN, hI, hJ⟩, hb⟩
  refine (holds_any (nms := nmA) (s := [1]) (l := [0]) (nc := 1) (sc := 1) (lc := 1) (v := ⟨o, nm, A, ll, cap, p⟩) W3 hN ⟨hI, hJ⟩ ⟨Nat.le_refl _, fun h => by cases h⟩ ⟨Nat.le_refl _, fun h => by cases h⟩ (by decide) (by decide) (by decide) (HF1.out.below (below_t (below_alloc _ _) hb)) fG_okF (by decide)).mono ?_
  rintro e w4 ⟨rfl, hb4⟩
  rw [ho_two, tu_nil wR_two fG_hd]
  have HK4 := Lib.hid (hb.trans (hb4.mono hb.size))
  clear hN hI hJ hb hb4 f0 f1 f2 f3 hfl
  have HB4 := Lib.hid (HB1.out.trans ((below_t (below_alloc _ _) HK4.out).mono HB1.out.size))
  have HCK := Lib.hid (check_any (N := none) (A := none) (B := none) (nms := []) (s := []) (l := []) (nc := 0) (sc := 0) (lc := 0) w4 (fun i hi => absurd hi (by simp)) ⟨isl_nil, isl_nil⟩ (by decide) (by decide) (by decide))
  rw [if_neg (show ¬ wR [] [] [] by decide)] at HCK
  go_wp2_with fail
  refine (HCK.out).mono ?_
  rintro e w5 ⟨rfl, hb5⟩
  have HB5 := Lib.hid (HB4.out.trans (hb5.mono HB4.out.size))
  have HGG := Lib.hid ((HG.out.below HB5.out).glob)
  clear hb5
  go_wp2_with fail
  refine (num_errno 1 w5 HGG.out).mono ?_
  rintro e w6 ⟨rfl, hb6⟩
  have HB6 := Lib.hid (HB5.out.trans (hb6.mono HB5.out.size))
  clear hb6
  go_wp2
  go_ret
  exact ⟨rfl, HB6.out⟩
end Go.Proofs.YtkddaobbjfnckaaGreatDoor
