/-
  Holds, walked.
-/
import Derived.Test.YtkddaobbjfnckaaGreatDoorOk
namespace Go.Proofs.YtkddaobbjfnckaaGreatDoor
open Go.RowKit Go.Sort Go.Maps

/-- What Holds tells. -/
noncomputable def hoV (nms : List ByteArray) (s l : List Int) (x : Fo) : Bool := @decide (wR nms s l ∧ hv nms (wl s l) x = true) (Classical.propDecidable _)
def HoP (nms : List ByteArray) (s l : List Int) (x : Fo) (w : World) (e : Ending) (w' : World) : Prop := e = .returned (.tuple #[.bool (hoV nms s l x), tuE nms s l x]) ∧ Below w.heap.size w w'
theorem ho_yes {nms : List ByteArray} {s l : List Int} {x : Fo} (hr : wR nms s l) (hd : hdO nms x = true) (ho : OkF x) : (trO (s.length + l.length) s.length (labO nms (s ++ l)) x).getD 0 false = hoV nms s l x := by
  have hl := List.length_pos_iff.2 hr.2.2.1
  have hp : ∀ nm, Per s.length (s.length + l.length - s.length) (LN nms (wl s l) nm) := fun nm => by rw [Nat.add_sub_cancel_left]; exact ln_per nm
  have h := tells_sem (n := s.length + l.length) (a := s.length) (lab := labO nms (s ++ l)) (by omega) hp x ho (fun nm hn => by
    refine ⟨by simp [labO, lbL], fun i hi => ?_⟩
    have hi' : i < (s ++ l).length := by rw [List.length_append]; exact hi
    rw [labO, lbL, List.getD_eq_getElem?_getD, List.getElem?_map, List.getElem?_eq_getElem hi', Option.map_some, Option.getD_some, LN, ← wl_app i hi, List.getD_eq_getElem?_getD, List.getElem?_eq_getElem hi']
    rfl)
  have h0 := h.2 0 (by omega)
  rw [Bool.eq_iff_iff, h0, hoV]
  rw [@decide_eq_true_iff _ (Classical.propDecidable _), hv_iff]
  exact ⟨fun h => ⟨hr, hd, h⟩, fun h => h.2.2⟩
theorem ho_no {nms : List ByteArray} {s l : List Int} {x : Fo} (h : ¬ (wR nms s l ∧ hdO nms x = true)) : hoV nms s l x = false := by
  unfold hoV
  exact @decide_eq_false _ (Classical.propDecidable _) fun h1 => h ⟨h1.1, (hv_iff.1 h1.2).1⟩
theorem tu_nil {nms : List ByteArray} {s l : List Int} {x : Fo} (hr : wR nms s l) (hd : hdO nms x = true) : tuE nms s l x = .nilIface := by rw [tuE, if_pos hr, if_pos hd]
theorem tu_not {nms : List ByteArray} {s l : List Int} {x : Fo} (h : ¬ (wR nms s l ∧ hdO nms x = true)) : ∃ k : Int, k ≠ 0 ∧ tuE nms s l x = .iface 71 (.int .i64 k) := by
  unfold tuE
  by_cases hr : wR nms s l
  · rw [if_pos hr, if_neg (fun hd => h ⟨hr, hd⟩)]; exact ⟨30, by omega, rfl⟩
  · rw [if_neg hr]; exact ⟨1, by omega, rfl⟩
set_option maxHeartbeats 4000000 in
theorem holds_any {N A B : Option Addr} {nms : List ByteArray} {s l : List Int} {nc sc lc : Nat} {x : Fo} {v : FV} {S : Nat → Prop} (w : World) (hN : SSl w N nms) (h : WM w A B s l) (hc1 : CapOk A s.length sc) (hc2 : CapOk B l.length lc) (h0 : nms.length ≤ 1000000) (h1 : s.length ≤ 1000000) (h2 : l.length ≤ 1000000) (hx : FS w 27 S x v.c) (ho : OkF x) (hz : x.size ≤ 4096) :
    Calls Tryz.prog 17 #[.agg #[.string v.o, .string v.nm, .slice v.A v.ll v.cap, .int .i64 v.p], .slice N nms.length nc, lav A s.length sc B l.length lc] w (HoP nms s l x w) := by
  have HB0 := Lib.hid (show Below w.heap.size w ((w.alloc (.cells #[.string v.o, .string v.nm, .slice v.A v.ll v.cap, .int .i64 v.p] 27)).alloc (.cells #[.slice A s.length sc, .slice B l.length lc] 42)) from below_t (below_alloc _ _) (below_alloc _ _))
  have HT := Lib.hid (fun (W : World) (hb : Below w.heap.size w W) => truths_any (nc := nc) (sc := sc) (lc := lc) W (hN.below hb) (h.below hb) hc1 hc2 h0 h1 h2 (hx.below hb) ho hz)
  have HYES := Lib.hid (fun (hr : wR nms s l) (hd : hdO nms x = true) => ho_yes hr hd ho)
  have HPOS := Lib.hid (fun (hr : wR nms s l) => List.length_pos_iff.2 hr.2.2.1)
  show Calls Tryz.prog 17 #[.agg #[.string v.o, .string v.nm, .slice v.A v.ll v.cap, .int .i64 v.p], .slice N nms.length nc, .agg #[.slice A s.length sc, .slice B l.length lc]] w _
  generalize nms.length = nl at *
  clear hN h hc1 hc2 h0 h1 h2 hx ho hz
  go_enter Tryz.func17, Tryz.ntmps17
  go_wp2_with fail
  refine (HT.out _ HB0.out).mono ?_
  rintro e w1 ⟨A1, m1, d1, rfl, hy, hn, hb1⟩
  have HB1 := Lib.hid (below_t HB0.out hb1)
  clear hb1 HT
  by_cases hc : wR nms s l ∧ hdO nms x = true
  · obtain ⟨rfl, hd, hB, hl⟩ := hy hc.1 hc.2
    have hpos := HPOS.out hc.1
    obtain ⟨g, o, rfl, c0⟩ := hB 0 (by rw [hl]; omega)
    rw [bget (by rw [hl]; omega), HYES.out hc.1 hc.2, Nat.add_zero] at c0
    rw [tu_nil hc.1 hc.2]
    have HTU := Lib.hid (tu_nil hc.1 hc.2)
    obtain ⟨b, hbb⟩ : ∃ b, b = hoV nms s l x := ⟨_, rfl⟩
    rw [← hbb] at c0
    have HBB := Lib.hid hbb
    clear hbb
    have k1 : (0 : Int) < ((s.length + l.length : Nat) : Int) := by omega
    have k2 : (0 : Int) < (s.length : Int) + (l.length : Int) := by omega
    have k3 : 0 < s.length + l.length := by omega
    clear hy hn hc hB hl hd HYES
    go_wp2_with fail
    go_ret2
    exact ⟨by rw [HTU.out, ← HBB.out]; rfl, HB1.out⟩
  · obtain ⟨k, hk, hE⟩ := tu_not hc
    obtain rfl := hn hc
    rw [hE]
    have HE := Lib.hid hE
    have HV := Lib.hid (ho_no hc)
    clear hy hn hc HYES hE
    go_wp2_with fail
    go_ret2
    exact ⟨by rw [HE.out, HV.out]; rfl, HB1.out⟩
end Go.Proofs.YtkddaobbjfnckaaGreatDoor
