/-
  truths, op by op; walked. sides and truths of any formula, walked.
-/
import Derived.Test.YtmgjpjjglghbaaaGreatDoorOE
import Derived.Test.YtmgjpjjglghbaaaGreatDoorOD
import Derived.Test.YtmgjpjjglghbaaaGreatDoorJ7
import Derived.Deep.RegionHeld3
namespace Go.Proofs.YtmgjpjjglghbaaaGreatDoor
section
open Go.RowKit

set_option maxHeartbeats 4000000 in
theorem tr_G {w : World} {N P K : Option Addr} {nl nc n pc a kl kc : Nat} {l r : List Bool} {o nm : ByteArray} {p : Int} (ho : o.toList = [71]) (ha : a < n) (hn : n ≤ 1000000)
    (hsd : ∀ W, Below w.heap.size w W → Calls Tryz.prog 78 #[plv N nl nc P n pc a, .agg #[.string o, .string nm, .slice K kl kc, .int .i64 p]] W (SdP 1 n l r W)) :
    Calls Tryz.prog 47 #[plv N nl nc P n pc a, .agg #[.string o, .string nm, .slice K kl kc, .int .i64 p]] w (BLn n (untL a l (bothL (List.replicate n false) l) true) w) := by
  have g0 : (o.toList == [116, 114, 117, 101]) = false := by rw [ho]; rfl
  have g1 : (o.toList == [108, 97, 98, 101, 108]) = false := by rw [ho]; rfl
  have g2 : (o.toList == [33]) = false := by rw [ho]; rfl
  have g3 : (o.toList == [88]) = false := by rw [ho]; rfl
  have g4 : (o.toList == [61, 62]) = false := by rw [ho]; rfl
  have g5 : (o.toList == [124]) = false := by rw [ho]; rfl
  have g6 : (o.toList == [38]) = false := by rw [ho]; rfl
  have g7 : (o.toList == [70]) = false := by rw [ho]; rfl
  have g8 : (o.toList == [85]) = false := by rw [ho]; rfl
  have g9 : (o.toList == [71]) = true := by rw [ho]; rfl
  have g10 : (o.toList == [82]) = false := by rw [ho]; rfl
  have g11 : (o.toList == [87]) = false := by rw [ho]; rfl
  have HBW := Lib.hid (show Below w.heap.size w ((w.alloc (.cells #[.slice N nl nc, .slice P n pc, .int .i64 (a : Int)] 83)).alloc (.cells #[.string o, .string nm, .slice K kl kc, .int .i64 p] 27)) from below_t (below_alloc _ _) (below_alloc _ _))
  have HSD := Lib.hid (hsd _ HBW.out)
  have HXP := Lib.hid (show ∀ W, Below ((w.alloc (.cells #[.slice N nl nc, .slice P n pc, .int .i64 (a : Int)] 83)).alloc (.cells #[.string o, .string nm, .slice K kl kc, .int .i64 p] 27)).heap.size ((w.alloc (.cells #[.slice N nl nc, .slice P n pc, .int .i64 (a : Int)] 83)).alloc (.cells #[.string o, .string nm, .slice K kl kc, .int .i64 p] 27)) W → TBx w N nl nc P n pc a o nm W from fun W hW => by
    have h1 := ((Bx.new w 83 [.slice N nl nc, .slice P n pc, .int .i64 (a : Int)]).below (below_alloc _ (.cells #[.string o, .string nm, .slice K kl kc, .int .i64 p] 27))).below hW
    have h2 := (Bx.new (w.alloc (.cells #[.slice N nl nc, .slice P n pc, .int .i64 (a : Int)] 83)) 27 [.string o, .string nm, .slice K kl kc, .int .i64 p]).below hW
    rw [show (w.alloc (.cells #[.slice N nl nc, .slice P n pc, .int .i64 (a : Int)] 83)).heap.size = w.heap.size + 1 by simp] at h2
    exact ⟨h1.cell 0, h1.cell 1, h1.cell 2, h2.cell 0, h2.cell 1⟩)
  clear hsd ho
  show Calls Tryz.prog 47 #[.agg #[.slice N nl nc, .slice P n pc, .int .i64 (a : Int)], .agg #[.string o, .string nm, .slice K kl kc, .int .i64 p]] w _
  go_enter Tryz.func47, Tryz.ntmps47
  go_wp2_with fail
  refine (HSD.out).mono ?_
  rintro e w1 ⟨A, c1, B, c2, m1, m2, rfl, hl, hr, hb1⟩
  obtain ⟨hm1, hc1, hA, hlA⟩ := hl (by omega)
  subst m1
  have HA := Lib.hid hA
  have HLA := Lib.hid hlA
  have HC1 := Lib.hid hc1
  clear hA hlA hc1
  have HL1 := Lib.hid hb1
  obtain ⟨p0, p1, p2, f0, f1⟩ := HXP.out _ HL1.out
  clear hl hr hb1
  go_wp2_with fail
  refine (all_n (b := false) w1 (by omega) hn).mono ?_
  rintro e w2 ⟨A2, d2, rfl, hd2, hl2, hB2, hb2⟩
  have HR2 := Lib.hid hB2
  have HRL2 := Lib.hid hl2
  have HRC2 := Lib.hid hd2
  have HBB2 := Lib.hid hb2
  have HL2 := Lib.hid (HL1.out.trans (hb2.mono HL1.out.size))
  clear hB2 hl2 hd2 hb2 p0 p1 p2 f0 f1
  obtain ⟨p0, p1, p2, f0, f1⟩ := HXP.out _ HL2.out
  go_wp2_with fail
  refine (both_n w2 HR2.out ((HA.out).below HBB2.out) HRL2.out HLA.out hn).mono ?_
  rintro e w3 ⟨A3, d3, rfl, hd3, hl3, hB3, hb3⟩
  have HR3 := Lib.hid hB3
  have HRL3 := Lib.hid hl3
  have HRC3 := Lib.hid hd3
  have HBB3 := Lib.hid hb3
  have HL3 := Lib.hid (HL2.out.trans (hb3.mono HL2.out.size))
  clear hB3 hl3 hd3 hb3 p0 p1 p2 f0 f1
  obtain ⟨p0, p1, p2, f0, f1⟩ := HXP.out _ HL3.out
  go_wp2_with fail
  refine (until_n (x := true) w3 (((HA.out).below HBB2.out).below HBB3.out) HR3.out HLA.out HRL3.out hn ha).mono ?_
  rintro e w4 ⟨A4, d4, rfl, hd4, hl4, hB4, hb4⟩
  have HR4 := Lib.hid hB4
  have HRL4 := Lib.hid hl4
  have HRC4 := Lib.hid hd4
  have HBB4 := Lib.hid hb4
  have HL4 := Lib.hid (HL3.out.trans (hb4.mono HL3.out.size))
  clear hB4 hl4 hd4 hb4 p0 p1 p2 f0 f1
  obtain ⟨p0, p1, p2, f0, f1⟩ := HXP.out _ HL4.out
  go_wp2
  go_ret
  exact ⟨A4, d4, rfl, HRC4.out, HRL4.out, HR4.out, below_t HBW.out HL4.out⟩
set_option maxHeartbeats 4000000 in
theorem tr_R {w : World} {N P K : Option Addr} {nl nc n pc a kl kc : Nat} {l r : List Bool} {o nm : ByteArray} {p : Int} (ho : o.toList = [82]) (ha : a < n) (hn : n ≤ 1000000)
    (hsd : ∀ W, Below w.heap.size w W → Calls Tryz.prog 78 #[plv N nl nc P n pc a, .agg #[.string o, .string nm, .slice K kl kc, .int .i64 p]] W (SdP 2 n l r W)) :
    Calls Tryz.prog 47 #[plv N nl nc P n pc a, .agg #[.string o, .string nm, .slice K kl kc, .int .i64 p]] w (BLn n (untL a r (bothL l r) true) w) := by
  have g0 : (o.toList == [116, 114, 117, 101]) = false := by rw [ho]; rfl
  have g1 : (o.toList == [108, 97, 98, 101, 108]) = false := by rw [ho]; rfl
  have g2 : (o.toList == [33]) = false := by rw [ho]; rfl
  have g3 : (o.toList == [88]) = false := by rw [ho]; rfl
  have g4 : (o.toList == [61, 62]) = false := by rw [ho]; rfl
  have g5 : (o.toList == [124]) = false := by rw [ho]; rfl
  have g6 : (o.toList == [38]) = false := by rw [ho]; rfl
  have g7 : (o.toList == [70]) = false := by rw [ho]; rfl
  have g8 : (o.toList == [85]) = false := by rw [ho]; rfl
  have g9 : (o.toList == [71]) = false := by rw [ho]; rfl
  have g10 : (o.toList == [82]) = true := by rw [ho]; rfl
  have g11 : (o.toList == [87]) = false := by rw [ho]; rfl
  have HBW := Lib.hid (show Below w.heap.size w ((w.alloc (.cells #[.slice N nl nc, .slice P n pc, .int .i64 (a : Int)] 83)).alloc (.cells #[.string o, .string nm, .slice K kl kc, .int .i64 p] 27)) from below_t (below_alloc _ _) (below_alloc _ _))
  have HSD := Lib.hid (hsd _ HBW.out)
  have HXP := Lib.hid (show ∀ W, Below ((w.alloc (.cells #[.slice N nl nc, .slice P n pc, .int .i64 (a : Int)] 83)).alloc (.cells #[.string o, .string nm, .slice K kl kc, .int .i64 p] 27)).heap.size ((w.alloc (.cells #[.slice N nl nc, .slice P n pc, .int .i64 (a : Int)] 83)).alloc (.cells #[.string o, .string nm, .slice K kl kc, .int .i64 p] 27)) W → TBx w N nl nc P n pc a o nm W from fun W hW => by
    have h1 := ((Bx.new w 83 [.slice N nl nc, .slice P n pc, .int .i64 (a : Int)]).below (below_alloc _ (.cells #[.string o, .string nm, .slice K kl kc, .int .i64 p] 27))).below hW
    have h2 := (Bx.new (w.alloc (.cells #[.slice N nl nc, .slice P n pc, .int .i64 (a : Int)] 83)) 27 [.string o, .string nm, .slice K kl kc, .int .i64 p]).below hW
    rw [show (w.alloc (.cells #[.slice N nl nc, .slice P n pc, .int .i64 (a : Int)] 83)).heap.size = w.heap.size + 1 by simp] at h2
    exact ⟨h1.cell 0, h1.cell 1, h1.cell 2, h2.cell 0, h2.cell 1⟩)
  clear hsd ho
  show Calls Tryz.prog 47 #[.agg #[.slice N nl nc, .slice P n pc, .int .i64 (a : Int)], .agg #[.string o, .string nm, .slice K kl kc, .int .i64 p]] w _
  go_enter Tryz.func47, Tryz.ntmps47
  go_wp2_with fail
  refine (HSD.out).mono ?_
  rintro e w1 ⟨A, c1, B, c2, m1, m2, rfl, hl, hr, hb1⟩
  obtain ⟨hm1, hc1, hA, hlA⟩ := hl (by omega)
  subst m1
  have HA := Lib.hid hA
  have HLA := Lib.hid hlA
  have HC1 := Lib.hid hc1
  clear hA hlA hc1
  obtain ⟨hm2, -, hB, hlB⟩ := hr (by omega)
  subst m2
  have HB := Lib.hid hB
  have HLB := Lib.hid hlB
  clear hB hlB
  have HL1 := Lib.hid hb1
  obtain ⟨p0, p1, p2, f0, f1⟩ := HXP.out _ HL1.out
  clear hl hr hb1
  go_wp2_with fail
  refine (both_n w1 HA.out HB.out HLA.out HLB.out hn).mono ?_
  rintro e w2 ⟨A2, d2, rfl, hd2, hl2, hB2, hb2⟩
  have HR2 := Lib.hid hB2
  have HRL2 := Lib.hid hl2
  have HRC2 := Lib.hid hd2
  have HBB2 := Lib.hid hb2
  have HL2 := Lib.hid (HL1.out.trans (hb2.mono HL1.out.size))
  clear hB2 hl2 hd2 hb2 p0 p1 p2 f0 f1
  obtain ⟨p0, p1, p2, f0, f1⟩ := HXP.out _ HL2.out
  go_wp2_with fail
  refine (until_n (x := true) w2 ((HB.out).below HBB2.out) HR2.out HLB.out HRL2.out hn ha).mono ?_
  rintro e w3 ⟨A3, d3, rfl, hd3, hl3, hB3, hb3⟩
  have HR3 := Lib.hid hB3
  have HRL3 := Lib.hid hl3
  have HRC3 := Lib.hid hd3
  have HBB3 := Lib.hid hb3
  have HL3 := Lib.hid (HL2.out.trans (hb3.mono HL2.out.size))
  clear hB3 hl3 hd3 hb3 p0 p1 p2 f0 f1
  obtain ⟨p0, p1, p2, f0, f1⟩ := HXP.out _ HL3.out
  go_wp2
  go_ret
  exact ⟨A3, d3, rfl, HRC3.out, HRL3.out, HR3.out, below_t HBW.out HL3.out⟩
set_option maxHeartbeats 4000000 in
theorem tr_W {w : World} {N P K : Option Addr} {nl nc n pc a kl kc : Nat} {l r : List Bool} {o nm : ByteArray} {p : Int} (ho : o.toList = [87]) (ha : a < n) (hn : n ≤ 1000000)
    (hsd : ∀ W, Below w.heap.size w W → Calls Tryz.prog 78 #[plv N nl nc P n pc a, .agg #[.string o, .string nm, .slice K kl kc, .int .i64 p]] W (SdP 2 n l r W)) :
    Calls Tryz.prog 47 #[plv N nl nc P n pc a, .agg #[.string o, .string nm, .slice K kl kc, .int .i64 p]] w (BLn n (untL a l r true) w) := by
  have g0 : (o.toList == [116, 114, 117, 101]) = false := by rw [ho]; rfl
  have g1 : (o.toList == [108, 97, 98, 101, 108]) = false := by rw [ho]; rfl
  have g2 : (o.toList == [33]) = false := by rw [ho]; rfl
  have g3 : (o.toList == [88]) = false := by rw [ho]; rfl
  have g4 : (o.toList == [61, 62]) = false := by rw [ho]; rfl
  have g5 : (o.toList == [124]) = false := by rw [ho]; rfl
  have g6 : (o.toList == [38]) = false := by rw [ho]; rfl
  have g7 : (o.toList == [70]) = false := by rw [ho]; rfl
  have g8 : (o.toList == [85]) = false := by rw [ho]; rfl
  have g9 : (o.toList == [71]) = false := by rw [ho]; rfl
  have g10 : (o.toList == [82]) = false := by rw [ho]; rfl
  have g11 : (o.toList == [87]) = true := by rw [ho]; rfl
  have HBW := Lib.hid (show Below w.heap.size w ((w.alloc (.cells #[.slice N nl nc, .slice P n pc, .int .i64 (a : Int)] 83)).alloc (.cells #[.string o, .string nm, .slice K kl kc, .int .i64 p] 27)) from below_t (below_alloc _ _) (below_alloc _ _))
  have HSD := Lib.hid (hsd _ HBW.out)
  have HXP := Lib.hid (show ∀ W, Below ((w.alloc (.cells #[.slice N nl nc, .slice P n pc, .int .i64 (a : Int)] 83)).alloc (.cells #[.string o, .string nm, .slice K kl kc, .int .i64 p] 27)).heap.size ((w.alloc (.cells #[.slice N nl nc, .slice P n pc, .int .i64 (a : Int)] 83)).alloc (.cells #[.string o, .string nm, .slice K kl kc, .int .i64 p] 27)) W → TBx w N nl nc P n pc a o nm W from fun W hW => by
    have h1 := ((Bx.new w 83 [.slice N nl nc, .slice P n pc, .int .i64 (a : Int)]).below (below_alloc _ (.cells #[.string o, .string nm, .slice K kl kc, .int .i64 p] 27))).below hW
    have h2 := (Bx.new (w.alloc (.cells #[.slice N nl nc, .slice P n pc, .int .i64 (a : Int)] 83)) 27 [.string o, .string nm, .slice K kl kc, .int .i64 p]).below hW
    rw [show (w.alloc (.cells #[.slice N nl nc, .slice P n pc, .int .i64 (a : Int)] 83)).heap.size = w.heap.size + 1 by simp] at h2
    exact ⟨h1.cell 0, h1.cell 1, h1.cell 2, h2.cell 0, h2.cell 1⟩)
  clear hsd ho
  show Calls Tryz.prog 47 #[.agg #[.slice N nl nc, .slice P n pc, .int .i64 (a : Int)], .agg #[.string o, .string nm, .slice K kl kc, .int .i64 p]] w _
  go_enter Tryz.func47, Tryz.ntmps47
  go_wp2_with fail
  refine (HSD.out).mono ?_
  rintro e w1 ⟨A, c1, B, c2, m1, m2, rfl, hl, hr, hb1⟩
  obtain ⟨hm1, hc1, hA, hlA⟩ := hl (by omega)
  subst m1
  have HA := Lib.hid hA
  have HLA := Lib.hid hlA
  have HC1 := Lib.hid hc1
  clear hA hlA hc1
  obtain ⟨hm2, -, hB, hlB⟩ := hr (by omega)
  subst m2
  have HB := Lib.hid hB
  have HLB := Lib.hid hlB
  clear hB hlB
  have HL1 := Lib.hid hb1
  obtain ⟨p0, p1, p2, f0, f1⟩ := HXP.out _ HL1.out
  clear hl hr hb1
  go_wp2_with fail
  refine (until_n (x := true) w1 HA.out HB.out HLA.out HLB.out hn ha).mono ?_
  rintro e w2 ⟨A2, d2, rfl, hd2, hl2, hB2, hb2⟩
  have HR2 := Lib.hid hB2
  have HRL2 := Lib.hid hl2
  have HRC2 := Lib.hid hd2
  have HBB2 := Lib.hid hb2
  have HL2 := Lib.hid (HL1.out.trans (hb2.mono HL1.out.size))
  clear hB2 hl2 hd2 hb2 p0 p1 p2 f0 f1
  obtain ⟨p0, p1, p2, f0, f1⟩ := HXP.out _ HL2.out
  go_wp2
  go_ret
  exact ⟨A2, d2, rfl, HRC2.out, HRL2.out, HR2.out, below_t HBW.out HL2.out⟩
end
section
open Go.RowKit

/-- A label's truths. -/
def labO (nms : List ByteArray) (ls : List Int) (nm : List UInt8) : List Bool := lbL ls (posO nms ⟨nm.toArray⟩)
/-- What truths is asked over: names and letters in memory. -/
structure Pls (N P : Option Addr) (nms : List ByteArray) (ls : List Int) (w : World) : Prop where
  nm : SSl w N nms
  lt : ISl w P ls
  six : nms.length ≤ 6
  few : ls.length ≤ 1000000
  sml : ∀ c ∈ ls, 0 ≤ c ∧ c < 64
theorem Pls.below {N P : Option Addr} {nms : List ByteArray} {ls : List Int} {w w' : World} (h : Pls N P nms ls w) (hb : Below w.heap.size w w') : Pls N P nms ls w' := ⟨h.nm.below hb, h.lt.below hb, h.six, h.few, h.sml⟩
def TrC (a : Nat) (nms : List ByteArray) (ls : List Int) (x : Fo) : Prop := ∀ (w : World) (N P : Option Addr) (nc pc : Nat) (S : Nat → Prop) (c : List Value), Pls N P nms ls w → FS w 27 S x c →
  Calls Tryz.prog 47 #[plv N nms.length nc P ls.length pc a, .agg c.toArray] w (BLn ls.length (trO ls.length a (labO nms ls) x) w)
def SdC (a : Nat) (nms : List ByteArray) (ls : List Int) (x : Fo) (k : Nat) (l r : List Bool) : Prop := ∀ (w : World) (N P : Option Addr) (nc pc : Nat) (S : Nat → Prop) (c : List Value), Pls N P nms ls w → FS w 27 S x c →
  Calls Tryz.prog 78 #[plv N nms.length nc P ls.length pc a, .agg c.toArray] w (SdP k ls.length l r w)
section
variable {a : Nat} {nms : List ByteArray} {ls : List Int}
theorem sd_leaf {op nm : List UInt8} {q : Nat} : SdC a nms ls (.leaf op nm q) 0 [] [] := by
  intro w N P nc pc S c hp hx
  have hc : c = FV.c ⟨⟨op.toArray⟩, ⟨nm.toArray⟩, none, 0, 0, (q : Int)⟩ := hx
  subst hc
  generalize nms.length = nl at *
  generalize ls.length = n at *
  clear hp hx
  show Calls Tryz.prog 78 #[.agg #[.slice N nl nc, .slice P n pc, .int .i64 (a : Int)], .agg #[.string ⟨op.toArray⟩, .string ⟨nm.toArray⟩, .slice none 0 0, .int .i64 (q : Int)]] w _
  go_enter Tryz.func78, Tryz.ntmps78
  go_wp2
  go_ret2
  exact ⟨none, 0, none, 0, 0, 0, rfl, fun h => absurd h (by omega), fun h => absurd h (by omega), below_t (below_alloc _ _) (below_alloc _ _)⟩
set_option maxHeartbeats 8000000 in
theorem sd_un {op : List UInt8} {x : Fo} {q : Nat} (hx : TrC a nms ls x) : SdC a nms ls (.un op x q) 1 (trO ls.length a (labO nms ls) x) [] := by
  intro w N P nc pc S c hp hf
  obtain ⟨K, kc, rfl, hK⟩ := hf.view
  obtain ⟨g, v, hg, hgl, hv, a0, a1, a2, a3⟩ := hK 0 (by simp [Fo.kids])
  subst hg
  simp only [Nat.zero_mul, Nat.zero_add] at a0 a1 a2 a3
  have hP : ∀ W, Below w.heap.size w W → Pls N P nms ls W := fun W hb => hp.below hb
  have HT := Lib.hid (fun (W : World) (hb : Below w.heap.size w W) => hx W N P nc pc S v.c (hP W hb) (hv.below hb))
  change Hid (∀ (W : World) (hb : Below w.heap.size w W), Calls Tryz.prog 47 #[.agg #[.slice N nms.length nc, .slice P ls.length pc, .int .i64 (a : Int)], .agg #[.string v.o, .string v.nm, .slice v.A v.ll v.cap, .int .i64 v.p]] W (BLn ls.length (trO ls.length a (labO nms ls) x) W)) at HT
  generalize trO ls.length a (labO nms ls) x = tx at *
  generalize (⟨(.un op x q : Fo).op.toArray⟩ : ByteArray) = o at *
  generalize (⟨(.un op x q : Fo).nm.toArray⟩ : ByteArray) = nm at *
  obtain ⟨p, hpp⟩ : ∃ p : Int, p = (((.un op x q : Fo).pos : Nat) : Int) := ⟨_, rfl⟩
  rw [← hpp]
  show Calls Tryz.prog 78 #[.agg #[.slice N nms.length nc, .slice P ls.length pc, .int .i64 (a : Int)], .agg #[.string o, .string nm, .slice (some ⟨g, 0, none⟩) 1 kc, .int .i64 p]] w _
  generalize nms.length = nl at *
  generalize ls.length = n at *
  have HBW := Lib.hid (show Below w.heap.size w ((w.alloc (.cells #[.slice N nl nc, .slice P n pc, .int .i64 (a : Int)] 83)).alloc (.cells #[.string o, .string nm, .slice (some ⟨g, 0, none⟩) 1 kc, .int .i64 p] 27)) from below_t (below_alloc _ _) (below_alloc _ _))
  have HSS := Lib.hid (show ∀ w', Below ((w.alloc (.cells #[.slice N nl nc, .slice P n pc, .int .i64 (a : Int)] 83)).alloc (.cells #[.string o, .string nm, .slice (some ⟨g, 0, none⟩) 1 kc, .int .i64 p] 27)).heap.size ((w.alloc (.cells #[.slice N nl nc, .slice P n pc, .int .i64 (a : Int)] 83)).alloc (.cells #[.string o, .string nm, .slice (some ⟨g, 0, none⟩) 1 kc, .int .i64 p] 27)) w' → (w'.cell? ⟨w.heap.size, 0, none⟩ = some (.slice N nl nc) ∧ w'.cell? ⟨w.heap.size, 1, none⟩ = some (.slice P n pc) ∧ w'.cell? ⟨w.heap.size, 2, none⟩ = some (.int .i64 (a : Int)) ∧ w'.cell? ⟨w.heap.size + 1, 2, none⟩ = some (.slice (some ⟨g, 0, none⟩) 1 kc) ∧ w'.cell? ⟨g, 0, none⟩ = some (.string v.o) ∧ w'.cell? ⟨g, 1, none⟩ = some (.string v.nm) ∧ w'.cell? ⟨g, 2, none⟩ = some (.slice v.A v.ll v.cap) ∧ w'.cell? ⟨g, 3, none⟩ = some (.int .i64 v.p)) from fun w' hW => by
    have h1 := ((Bx.new w 83 [.slice N nl nc, .slice P n pc, .int .i64 (a : Int)]).below (below_alloc _ (.cells #[.string o, .string nm, .slice (some ⟨g, 0, none⟩) 1 kc, .int .i64 p] 27))).below hW
    have h2 := (Bx.new (w.alloc (.cells #[.slice N nl nc, .slice P n pc, .int .i64 (a : Int)] 83)) 27 [.string o, .string nm, .slice (some ⟨g, 0, none⟩) 1 kc, .int .i64 p]).below hW
    rw [show (w.alloc (.cells #[.slice N nl nc, .slice P n pc, .int .i64 (a : Int)] 83)).heap.size = w.heap.size + 1 by simp] at h2
    have hb := below_t HBW.out hW
    exact ⟨h1.cell 0, h1.cell 1, h1.cell 2, h2.cell 2, cell_blw hb a0, cell_blw hb a1, cell_blw hb a2, cell_blw hb a3⟩)
  clear hx hp hf hK hv hgl a0 a1 a2 a3 hP hpp
  have lk : Below ((w.alloc (.cells #[.slice N nl nc, .slice P n pc, .int .i64 (a : Int)] 83)).alloc (.cells #[.string o, .string nm, .slice (some ⟨g, 0, none⟩) 1 kc, .int .i64 p] 27)).heap.size ((w.alloc (.cells #[.slice N nl nc, .slice P n pc, .int .i64 (a : Int)] 83)).alloc (.cells #[.string o, .string nm, .slice (some ⟨g, 0, none⟩) 1 kc, .int .i64 p] 27)) ((w.alloc (.cells #[.slice N nl nc, .slice P n pc, .int .i64 (a : Int)] 83)).alloc (.cells #[.string o, .string nm, .slice (some ⟨g, 0, none⟩) 1 kc, .int .i64 p] 27)).drew := (Below.refl _ _).drew
  go_enter Tryz.func78, Tryz.ntmps78
  go_wp2_with fail
  go_region_held3 (fun w' => w'.cell? ⟨w.heap.size, 0, none⟩ = some (.slice N nl nc) ∧ w'.cell? ⟨w.heap.size, 1, none⟩ = some (.slice P n pc) ∧ w'.cell? ⟨w.heap.size, 2, none⟩ = some (.int .i64 (a : Int)) ∧ w'.cell? ⟨w.heap.size + 1, 2, none⟩ = some (.slice (some ⟨g, 0, none⟩) 1 kc) ∧ w'.cell? ⟨g, 0, none⟩ = some (.string v.o) ∧ w'.cell? ⟨g, 1, none⟩ = some (.string v.nm) ∧ w'.cell? ⟨g, 2, none⟩ = some (.slice v.A v.ll v.cap) ∧ w'.cell? ⟨g, 3, none⟩ = some (.int .i64 v.p)) (exact HSS.out _ lk) (first
    | (go_at_call 47
       refine (HT.out _ (below_t HBW.out lk)).mono ?_
       rintro e w1 ⟨A1, d1, rfl, hd1, hl1, hB1, hb1⟩
       have HR1 := Lib.hid hB1
       have HRL1 := Lib.hid hl1
       have HRC1 := Lib.hid hd1
       replace lk : Below ((w.alloc (.cells #[.slice N nl nc, .slice P n pc, .int .i64 (a : Int)] 83)).alloc (.cells #[.string o, .string nm, .slice (some ⟨g, 0, none⟩) 1 kc, .int .i64 p] 27)).heap.size ((w.alloc (.cells #[.slice N nl nc, .slice P n pc, .int .i64 (a : Int)] 83)).alloc (.cells #[.string o, .string nm, .slice (some ⟨g, 0, none⟩) 1 kc, .int .i64 p] 27)) w1 := lk.trans (hb1.mono lk.size)
       clear hB1 hl1 hd1 hb1))
  have HLK := Lib.hid lk
  obtain ⟨p0, p1, p2, k2, -⟩ := HSS.out _ lk
  clear lk
  go_wp2
  go_ret2
  exact ⟨A1, d1, none, 0, n, 0, rfl, fun _ => ⟨rfl, HRC1.out, HR1.out, HRL1.out⟩, fun h => absurd h (by omega), below_t HBW.out HLK.out⟩
set_option maxHeartbeats 8000000 in
theorem sd_bin {op : List UInt8} {x y : Fo} {q : Nat} (hx : TrC a nms ls x) (hy : TrC a nms ls y) : SdC a nms ls (.bin op x y q) 2 (trO ls.length a (labO nms ls) x) (trO ls.length a (labO nms ls) y) := by
  intro w N P nc pc S c hp hf
  obtain ⟨K, kc, rfl, hK⟩ := hf.view
  obtain ⟨g, v, hg, hgl, hv, a0, a1, a2, a3⟩ := hK 0 (by simp [Fo.kids])
  obtain ⟨g', u, hg', _, hu, b0, b1, b2, b3⟩ := hK 1 (by simp [Fo.kids])
  have hgg : g = g' := by rw [hg] at hg'; injection hg' with e; injection e with e
  subst hgg
  subst hg
  simp only [Nat.zero_mul, Nat.zero_add, Nat.one_mul, Nat.reduceAdd] at a0 a1 a2 a3 b0 b1 b2 b3
  have hP : ∀ W, Below w.heap.size w W → Pls N P nms ls W := fun W hb => hp.below hb
  have HT := Lib.hid (fun (W : World) (hb : Below w.heap.size w W) => hx W N P nc pc S v.c (hP W hb) (hv.below hb))
  change Hid (∀ (W : World) (hb : Below w.heap.size w W), Calls Tryz.prog 47 #[.agg #[.slice N nms.length nc, .slice P ls.length pc, .int .i64 (a : Int)], .agg #[.string v.o, .string v.nm, .slice v.A v.ll v.cap, .int .i64 v.p]] W (BLn ls.length (trO ls.length a (labO nms ls) x) W)) at HT
  have HT2 := Lib.hid (fun (W : World) (hb : Below w.heap.size w W) => hy W N P nc pc S u.c (hP W hb) (hu.below hb))
  change Hid (∀ (W : World) (hb : Below w.heap.size w W), Calls Tryz.prog 47 #[.agg #[.slice N nms.length nc, .slice P ls.length pc, .int .i64 (a : Int)], .agg #[.string u.o, .string u.nm, .slice u.A u.ll u.cap, .int .i64 u.p]] W (BLn ls.length (trO ls.length a (labO nms ls) y) W)) at HT2
  generalize trO ls.length a (labO nms ls) x = tx at *
  generalize trO ls.length a (labO nms ls) y = ty at *
  generalize (⟨(.bin op x y q : Fo).op.toArray⟩ : ByteArray) = o at *
  generalize (⟨(.bin op x y q : Fo).nm.toArray⟩ : ByteArray) = nm at *
  obtain ⟨p, hpp⟩ : ∃ p : Int, p = (((.bin op x y q : Fo).pos : Nat) : Int) := ⟨_, rfl⟩
  rw [← hpp]
  show Calls Tryz.prog 78 #[.agg #[.slice N nms.length nc, .slice P ls.length pc, .int .i64 (a : Int)], .agg #[.string o, .string nm, .slice (some ⟨g, 0, none⟩) 2 kc, .int .i64 p]] w _
  generalize nms.length = nl at *
  generalize ls.length = n at *
  have HBW := Lib.hid (show Below w.heap.size w ((w.alloc (.cells #[.slice N nl nc, .slice P n pc, .int .i64 (a : Int)] 83)).alloc (.cells #[.string o, .string nm, .slice (some ⟨g, 0, none⟩) 2 kc, .int .i64 p] 27)) from below_t (below_alloc _ _) (below_alloc _ _))
  have HSS := Lib.hid (show ∀ w', Below ((w.alloc (.cells #[.slice N nl nc, .slice P n pc, .int .i64 (a : Int)] 83)).alloc (.cells #[.string o, .string nm, .slice (some ⟨g, 0, none⟩) 2 kc, .int .i64 p] 27)).heap.size ((w.alloc (.cells #[.slice N nl nc, .slice P n pc, .int .i64 (a : Int)] 83)).alloc (.cells #[.string o, .string nm, .slice (some ⟨g, 0, none⟩) 2 kc, .int .i64 p] 27)) w' → (w'.cell? ⟨w.heap.size, 0, none⟩ = some (.slice N nl nc) ∧ w'.cell? ⟨w.heap.size, 1, none⟩ = some (.slice P n pc) ∧ w'.cell? ⟨w.heap.size, 2, none⟩ = some (.int .i64 (a : Int)) ∧ w'.cell? ⟨w.heap.size + 1, 2, none⟩ = some (.slice (some ⟨g, 0, none⟩) 2 kc) ∧ w'.cell? ⟨g, 0, none⟩ = some (.string v.o) ∧ w'.cell? ⟨g, 1, none⟩ = some (.string v.nm) ∧ w'.cell? ⟨g, 2, none⟩ = some (.slice v.A v.ll v.cap) ∧ w'.cell? ⟨g, 3, none⟩ = some (.int .i64 v.p) ∧ w'.cell? ⟨g, 4, none⟩ = some (.string u.o) ∧ w'.cell? ⟨g, 5, none⟩ = some (.string u.nm) ∧ w'.cell? ⟨g, 6, none⟩ = some (.slice u.A u.ll u.cap) ∧ w'.cell? ⟨g, 7, none⟩ = some (.int .i64 u.p)) from fun w' hW => by
    have h1 := ((Bx.new w 83 [.slice N nl nc, .slice P n pc, .int .i64 (a : Int)]).below (below_alloc _ (.cells #[.string o, .string nm, .slice (some ⟨g, 0, none⟩) 2 kc, .int .i64 p] 27))).below hW
    have h2 := (Bx.new (w.alloc (.cells #[.slice N nl nc, .slice P n pc, .int .i64 (a : Int)] 83)) 27 [.string o, .string nm, .slice (some ⟨g, 0, none⟩) 2 kc, .int .i64 p]).below hW
    rw [show (w.alloc (.cells #[.slice N nl nc, .slice P n pc, .int .i64 (a : Int)] 83)).heap.size = w.heap.size + 1 by simp] at h2
    have hb := below_t HBW.out hW
    exact ⟨h1.cell 0, h1.cell 1, h1.cell 2, h2.cell 2, cell_blw hb a0, cell_blw hb a1, cell_blw hb a2, cell_blw hb a3, cell_blw hb b0, cell_blw hb b1, cell_blw hb b2, cell_blw hb b3⟩)
  clear hx hy hp hf hK hv hu hg' hgl a0 a1 a2 a3 b0 b1 b2 b3 hP hpp
  have lk : Below ((w.alloc (.cells #[.slice N nl nc, .slice P n pc, .int .i64 (a : Int)] 83)).alloc (.cells #[.string o, .string nm, .slice (some ⟨g, 0, none⟩) 2 kc, .int .i64 p] 27)).heap.size ((w.alloc (.cells #[.slice N nl nc, .slice P n pc, .int .i64 (a : Int)] 83)).alloc (.cells #[.string o, .string nm, .slice (some ⟨g, 0, none⟩) 2 kc, .int .i64 p] 27)) ((w.alloc (.cells #[.slice N nl nc, .slice P n pc, .int .i64 (a : Int)] 83)).alloc (.cells #[.string o, .string nm, .slice (some ⟨g, 0, none⟩) 2 kc, .int .i64 p] 27)).drew := (Below.refl _ _).drew
  go_enter Tryz.func78, Tryz.ntmps78
  go_wp2_with fail
  go_region_held3 (fun w' => w'.cell? ⟨w.heap.size, 0, none⟩ = some (.slice N nl nc) ∧ w'.cell? ⟨w.heap.size, 1, none⟩ = some (.slice P n pc) ∧ w'.cell? ⟨w.heap.size, 2, none⟩ = some (.int .i64 (a : Int)) ∧ w'.cell? ⟨w.heap.size + 1, 2, none⟩ = some (.slice (some ⟨g, 0, none⟩) 2 kc) ∧ w'.cell? ⟨g, 0, none⟩ = some (.string v.o) ∧ w'.cell? ⟨g, 1, none⟩ = some (.string v.nm) ∧ w'.cell? ⟨g, 2, none⟩ = some (.slice v.A v.ll v.cap) ∧ w'.cell? ⟨g, 3, none⟩ = some (.int .i64 v.p) ∧ w'.cell? ⟨g, 4, none⟩ = some (.string u.o) ∧ w'.cell? ⟨g, 5, none⟩ = some (.string u.nm) ∧ w'.cell? ⟨g, 6, none⟩ = some (.slice u.A u.ll u.cap) ∧ w'.cell? ⟨g, 7, none⟩ = some (.int .i64 u.p)) (exact HSS.out _ lk) (first
    | (go_at_call 47
       refine (HT.out _ (below_t HBW.out lk)).mono ?_
       rintro e w1 ⟨A1, d1, rfl, hd1, hl1, hB1, hb1⟩
       have HR1 := Lib.hid hB1
       have HRL1 := Lib.hid hl1
       have HRC1 := Lib.hid hd1
       replace lk : Below ((w.alloc (.cells #[.slice N nl nc, .slice P n pc, .int .i64 (a : Int)] 83)).alloc (.cells #[.string o, .string nm, .slice (some ⟨g, 0, none⟩) 2 kc, .int .i64 p] 27)).heap.size ((w.alloc (.cells #[.slice N nl nc, .slice P n pc, .int .i64 (a : Int)] 83)).alloc (.cells #[.string o, .string nm, .slice (some ⟨g, 0, none⟩) 2 kc, .int .i64 p] 27)) w1 := lk.trans (hb1.mono lk.size)
       clear hB1 hl1 hd1 hb1))
  have HL1 := Lib.hid lk
  obtain ⟨p0, p1, p2, k2, -⟩ := HSS.out _ lk
  clear lk
  go_wp2_with fail
  have lk : Below ((w.alloc (.cells #[.slice N nl nc, .slice P n pc, .int .i64 (a : Int)] 83)).alloc (.cells #[.string o, .string nm, .slice (some ⟨g, 0, none⟩) 2 kc, .int .i64 p] 27)).heap.size ((w.alloc (.cells #[.slice N nl nc, .slice P n pc, .int .i64 (a : Int)] 83)).alloc (.cells #[.string o, .string nm, .slice (some ⟨g, 0, none⟩) 2 kc, .int .i64 p] 27)) w1.drew := HL1.out.drew
  have lk1 : Below w1.heap.size w1 w1.drew := (Below.refl _ _).drew
  clear p0 p1 p2 k2
  go_region_held3 (fun w' => w'.cell? ⟨w.heap.size, 0, none⟩ = some (.slice N nl nc) ∧ w'.cell? ⟨w.heap.size, 1, none⟩ = some (.slice P n pc) ∧ w'.cell? ⟨w.heap.size, 2, none⟩ = some (.int .i64 (a : Int)) ∧ w'.cell? ⟨w.heap.size + 1, 2, none⟩ = some (.slice (some ⟨g, 0, none⟩) 2 kc) ∧ w'.cell? ⟨g, 0, none⟩ = some (.string v.o) ∧ w'.cell? ⟨g, 1, none⟩ = some (.string v.nm) ∧ w'.cell? ⟨g, 2, none⟩ = some (.slice v.A v.ll v.cap) ∧ w'.cell? ⟨g, 3, none⟩ = some (.int .i64 v.p) ∧ w'.cell? ⟨g, 4, none⟩ = some (.string u.o) ∧ w'.cell? ⟨g, 5, none⟩ = some (.string u.nm) ∧ w'.cell? ⟨g, 6, none⟩ = some (.slice u.A u.ll u.cap) ∧ w'.cell? ⟨g, 7, none⟩ = some (.int .i64 u.p)) (exact HSS.out _ lk) (first
    | (go_at_call 47
       refine (HT2.out _ (below_t HBW.out lk)).mono ?_
       rintro e w2 ⟨A2, d2, rfl, hd2, hl2, hB2, hb2⟩
       have HR2 := Lib.hid hB2
       have HRL2 := Lib.hid hl2
       have HRC2 := Lib.hid hd2
       replace lk : Below ((w.alloc (.cells #[.slice N nl nc, .slice P n pc, .int .i64 (a : Int)] 83)).alloc (.cells #[.string o, .string nm, .slice (some ⟨g, 0, none⟩) 2 kc, .int .i64 p] 27)).heap.size ((w.alloc (.cells #[.slice N nl nc, .slice P n pc, .int .i64 (a : Int)] 83)).alloc (.cells #[.string o, .string nm, .slice (some ⟨g, 0, none⟩) 2 kc, .int .i64 p] 27)) w2 := lk.trans (hb2.mono lk.size)
       replace lk1 : Below w1.heap.size w1 w2 := lk1.trans (hb2.mono lk1.size)
       clear hB2 hl2 hd2 hb2))
  have HLK := Lib.hid lk
  have HLK1 := Lib.hid lk1
  clear lk lk1
  go_wp2
  go_ret2
  exact ⟨A1, d1, A2, d2, n, n, rfl, fun _ => ⟨rfl, HRC1.out, HR1.out.below HLK1.out, HRL1.out⟩, fun _ => ⟨rfl, HRC2.out, HR2.out, HRL2.out⟩, below_t HBW.out HLK.out⟩
theorem tr_any (ha : a < ls.length) : ∀ x : Fo, OkF x → (∀ nm ∈ lbs x, (⟨nm.toArray⟩ : ByteArray) ∈ nms) → TrC a nms ls x
  | .leaf op nm q, h, hl => fun w N P nc pc S c hp hx => by
    have hc : c = FV.c ⟨⟨op.toArray⟩, ⟨nm.toArray⟩, none, 0, 0, (q : Int)⟩ := hx
    subst hc
    have hsd := fun (W : World) (hb : Below w.heap.size w W) => sd_leaf (a := a) (op := op) (nm := nm) (q := q) W N P nc pc S _ (hp.below hb) (hx.below hb)
    rcases h with ⟨rfl, _⟩ | ⟨rfl | rfl, _⟩
    · refine (tr_label (r2 := labO nms ls nm) (l := []) (r := []) (ByteArray.toList_eq _ |>.trans rfl) ha hp.few (fun W hb => ?_) hsd).mono fun e w' h => ?_
      · have h1 := hp.below hb
        exact (plab_any W h1.nm h1.lt (hl nm (by simp [lbs])) h1.six h1.few h1.sml).mono fun e w' h => h.n (by simp [lbL])
      · simpa [trO, show opLab ≠ opTrue by decide] using h
    · refine (tr_true (ByteArray.toList_eq _ |>.trans rfl) ha hp.few hsd).mono fun e w' h => ?_
      simpa [trO] using h
    · refine (tr_false (ByteArray.toList_eq _ |>.trans rfl) ha hp.few hsd).mono fun e w' h => ?_
      simpa [trO, show opFalse ≠ opTrue by decide, show opFalse ≠ opLab by decide] using h
  | .un op x q, h, hl => fun w N P nc pc S c hp hf => by
    have hx := tr_any ha x h.2 (fun nm hn => hl nm (by simpa [lbs] using hn))
    have hsd := fun (W : World) (hb : Below w.heap.size w W) => sd_un (op := op) (q := q) hx W N P nc pc S c (hp.below hb) (hf.below hb)
    obtain ⟨K, kc, rfl, _⟩ := hf.view
    rcases pk_un h.1 with rfl | rfl | rfl | rfl
    · refine (tr_not (ByteArray.toList_eq _ |>.trans rfl) ha hp.few hsd).mono fun e w' h => ?_
      simpa [trO] using h
    · refine (tr_next (ByteArray.toList_eq _ |>.trans rfl) ha hp.few hsd).mono fun e w' h => ?_
      simpa [trO] using h
    · refine (tr_F (ByteArray.toList_eq _ |>.trans rfl) ha hp.few hsd).mono fun e w' h => ?_
      simpa [trO] using h
    · refine (tr_G (ByteArray.toList_eq _ |>.trans rfl) ha hp.few hsd).mono fun e w' h => ?_
      simpa [trO] using h
  | .bin op x y q, h, hl => fun w N P nc pc S c hp hf => by
    have hx := tr_any ha x h.2.1 (fun nm hn => hl nm (by simp [lbs, hn]))
    have hy := tr_any ha y h.2.2 (fun nm hn => hl nm (by simp [lbs, hn]))
    have hsd := fun (W : World) (hb : Below w.heap.size w W) => sd_bin (op := op) (q := q) hx hy W N P nc pc S c (hp.below hb) (hf.below hb)
    obtain ⟨K, kc, rfl, _⟩ := hf.view
    rcases pk_bin h.1 with rfl | rfl | rfl | rfl | rfl | rfl
    · refine (tr_imp (ByteArray.toList_eq _ |>.trans rfl) ha hp.few hsd).mono fun e w' h => ?_
      simpa [trO] using h
    · refine (tr_or (ByteArray.toList_eq _ |>.trans rfl) ha hp.few hsd).mono fun e w' h => ?_
      simpa [trO] using h
    · refine (tr_and (ByteArray.toList_eq _ |>.trans rfl) ha hp.few hsd).mono fun e w' h => ?_
      simpa [trO] using h
    · refine (tr_U (ByteArray.toList_eq _ |>.trans rfl) ha hp.few hsd).mono fun e w' h => ?_
      simpa [trO] using h
    · refine (tr_W (ByteArray.toList_eq _ |>.trans rfl) ha hp.few hsd).mono fun e w' h => ?_
      simpa [trO] using h
    · refine (tr_R (ByteArray.toList_eq _ |>.trans rfl) ha hp.few hsd).mono fun e w' h => ?_
      simpa [trO] using h
end
end
end Go.Proofs.YtmgjpjjglghbaaaGreatDoor
