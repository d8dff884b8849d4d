/-
  truths, op by op, given what sides tells; walked. truths, op by op; walked.
-/
import Derived.Test.YtmgjpjjglghbaaaGreatDoorOC
import Derived.Test.YtmgjpjjglghbaaaGreatDoorOB
namespace Go.Proofs.YtmgjpjjglghbaaaGreatDoor
section
open Go.RowKit

/-- A list of n truths made by a call. -/
def BLn (n : Nat) (r : List Bool) (w : World) (e : Ending) (w' : World) : Prop := ∃ A cap, e = .returned (.slice A n cap) ∧ n ≤ cap ∧ r.length = n ∧ BSl w' A r ∧ Below w.heap.size w w'
theorem BLP.n {r : List Bool} {n : Nat} {w : World} {e : Ending} {w' : World} (h : BLP r w e w') (hr : r.length = n) : BLn n r w e w' := by
  subst hr
  obtain ⟨A, cap, h1, h2, h3, h4⟩ := h
  exact ⟨A, cap, h1, h2, rfl, h3, h4⟩
theorem unt_len {a : Nat} {l r : List Bool} {x : Bool} (h : l.length = r.length) : (untL a l r x).length = l.length := swp_len h
section
variable {n a nl nc pc c1 c2 : Nat} {N P A B : Option Addr} {l r : List Bool}
theorem opp_n (w : World) (h : BSl w A l) (hl : l.length = n) (hn : n ≤ 1000000) : Calls Tryz.prog 81 #[.slice A n c1] w (BLn n (l.map (!·)) w) := by
  subst hl
  exact (opp_any w h hn).mono fun e w' h => h.n (by simp)
theorem both_n (w : World) (h : BSl w A l) (hr : BSl w B r) (hl : l.length = n) (hl2 : r.length = n) (hn : n ≤ 1000000) : Calls Tryz.prog 84 #[.slice A n c1, .slice B n c2] w (BLn n (bothL l r) w) := by
  subst hl
  have := (both_any (cap := c1) (cap2 := c2) w h hr hl2.symm hn)
  rw [hl2] at this
  exact this.mono fun e w' h => h.n (by simp [bothL, hl2])
theorem either_n (w : World) (h : BSl w A l) (hr : BSl w B r) (hl : l.length = n) (hl2 : r.length = n) (hn : n ≤ 1000000) : Calls Tryz.prog 83 #[.slice A n c1, .slice B n c2] w (BLn n (eithL l r) w) := by
  subst hl
  have := (either_any (cap := c1) (cap2 := c2) w h hr hl2.symm hn)
  rw [hl2] at this
  exact this.mono fun e w' h => h.n (by simp [eithL, hl2])
theorem until_n {x : Bool} (w : World) (h : BSl w A l) (hr : BSl w B r) (hl : l.length = n) (hl2 : r.length = n) (hn : n ≤ 1000000) (ha : a < n) : Calls Tryz.prog 85 #[plv N nl nc P n pc a, .slice A n c1, .slice B n c2, .bool x] w (BLn n (untL a l r x) w) := by
  subst hl
  have := (until_any (N := N) (nl := nl) (nc := nc) (P := P) (pl := l.length) (pc := pc) (a := a) (x := x) (cap := c1) (cap2 := c2) w h hr hl2.symm hn ha rfl)
  rw [hl2] at this
  exact this.mono fun e w' h => h.n (unt_len hl2.symm)
theorem next_n (w : World) (h : BSl w A l) (hl : l.length = n) (hn : n ≤ 1000000) (ha : a < n) (hc : n ≤ c1) : Calls Tryz.prog 82 #[plv N nl nc P n pc a, .slice A n c1] w (BLn n (nextL a l) w) := by
  subst hl
  obtain ⟨g, o, rfl, _⟩ := h a ha
  exact (next_any w h ha hc hn).mono fun e w' h => h.n (by simp [nextL]; omega)
theorem all_n {b : Bool} (w : World) (h1 : 1 ≤ n) (h2 : n ≤ 1000000) : Calls Tryz.prog 79 #[plv N nl nc P n pc a, .bool b] w (BLn n (List.replicate n b) w) := (all_any w h1 h2).mono fun e w' h => h.n (by simp)
end
/-- What stands in the boxes of truths. -/
def TBx (w0 : World) (N : Option Addr) (nl nc : Nat) (P : Option Addr) (n pc a : Nat) (o nm : ByteArray) (w : World) : Prop :=
  w.cell? ⟨w0.heap.size, 0, none⟩ = some (.slice N nl nc) ∧ w.cell? ⟨w0.heap.size, 1, none⟩ = some (.slice P n pc) ∧ w.cell? ⟨w0.heap.size, 2, none⟩ = some (.int .i64 (a : Int)) ∧ w.cell? ⟨w0.heap.size + 1, 0, none⟩ = some (.string o) ∧ w.cell? ⟨w0.heap.size + 1, 1, none⟩ = some (.string nm)
/-- What sides tells: one list, two, or none. -/
def SdP (k n : Nat) (l r : List Bool) (w : World) (e : Ending) (w' : World) : Prop := ∃ A c1 B c2 m1 m2, e = .returned (.tuple #[.slice A m1 c1, .slice B m2 c2]) ∧ (1 ≤ k → m1 = n ∧ n ≤ c1 ∧ BSl w' A l ∧ l.length = n) ∧ (2 ≤ k → m2 = n ∧ n ≤ c2 ∧ BSl w' B r ∧ r.length = n) ∧ Below w.heap.size w w'
set_option maxHeartbeats 4000000 in
theorem tr_true {w : World} {N P K : Option Addr} {nl nc n pc a kl kc : Nat} {l r : List Bool} {o nm : ByteArray} {p : Int} (ho : o.toList = [116, 114, 117, 101]) (ha : a < n) (hn : n ≤ 1000000)
    (hsd : ∀ W, Below w.heap.size w W → Calls Tryz.prog 78 #[plv N nl nc P n pc a, .agg #[.string o, .string nm, .slice K kl kc, .int .i64 p]] W (SdP 0 n l r W)) :
    Calls Tryz.prog 47 #[plv N nl nc P n pc a, .agg #[.string o, .string nm, .slice K kl kc, .int .i64 p]] w (BLn n (List.replicate n true) w) := by
  have g0 : (o.toList == [116, 114, 117, 101]) = true := by rw [ho]; rfl
  have g1 : (o.toList == [108, 97, 98, 101, 108]) = false := by rw [ho]; rfl
  have g2 : (o.toList == [33]) = false := by rw [ho]; rfl
  have g3 : (o.toList == [88]) = false := by rw [ho]; rfl
  have g4 : (o.toList == [61, 62]) = false := by rw [ho]; rfl
  have g5 : (o.toList == [124]) = false := by rw [ho]; rfl
  have g6 : (o.toList == [38]) = false := by rw [ho]; rfl
  have g7 : (o.toList == [70]) = false := by rw [ho]; rfl
  have g8 : (o.toList == [85]) = false := by rw [ho]; rfl
  have g9 : (o.toList == [71]) = false := by rw [ho]; rfl
  have g10 : (o.toList == [82]) = false := by rw [ho]; rfl
  have g11 : (o.toList == [87]) = false := by rw [ho]; rfl
  have HBW := Lib.hid (show Below w.heap.size w ((w.alloc (.cells #[.slice N nl nc, .slice P n pc, .int .i64 (a : Int)] 83)).alloc (.cells #[.string o, .string nm, .slice K kl kc, .int .i64 p] 27)) from below_t (below_alloc _ _) (below_alloc _ _))
  have HSD := Lib.hid (hsd _ HBW.out)
  have HXP := Lib.hid (show ∀ W, Below ((w.alloc (.cells #[.slice N nl nc, .slice P n pc, .int .i64 (a : Int)] 83)).alloc (.cells #[.string o, .string nm, .slice K kl kc, .int .i64 p] 27)).heap.size ((w.alloc (.cells #[.slice N nl nc, .slice P n pc, .int .i64 (a : Int)] 83)).alloc (.cells #[.string o, .string nm, .slice K kl kc, .int .i64 p] 27)) W → TBx w N nl nc P n pc a o nm W from fun W hW => by
    have h1 := ((Bx.new w 83 [.slice N nl nc, .slice P n pc, .int .i64 (a : Int)]).below (below_alloc _ (.cells #[.string o, .string nm, .slice K kl kc, .int .i64 p] 27))).below hW
    have h2 := (Bx.new (w.alloc (.cells #[.slice N nl nc, .slice P n pc, .int .i64 (a : Int)] 83)) 27 [.string o, .string nm, .slice K kl kc, .int .i64 p]).below hW
    rw [show (w.alloc (.cells #[.slice N nl nc, .slice P n pc, .int .i64 (a : Int)] 83)).heap.size = w.heap.size + 1 by simp] at h2
    exact ⟨h1.cell 0, h1.cell 1, h1.cell 2, h2.cell 0, h2.cell 1⟩)
  clear hsd ho
  show Calls Tryz.prog 47 #[.agg #[.slice N nl nc, .slice P n pc, .int .i64 (a : Int)], .agg #[.string o, .string nm, .slice K kl kc, .int .i64 p]] w _
  go_enter Tryz.func47, Tryz.ntmps47
  go_wp2_with fail
  refine (HSD.out).mono ?_
  rintro e w1 ⟨A, c1, B, c2, m1, m2, rfl, hl, hr, hb1⟩
  have HL1 := Lib.hid hb1
  obtain ⟨p0, p1, p2, f0, f1⟩ := HXP.out _ HL1.out
  clear hl hr hb1
  go_wp2_with fail
  refine (all_n (b := true) w1 (by omega) hn).mono ?_
  rintro e w2 ⟨A2, d2, rfl, hd2, hl2, hB2, hb2⟩
  have HR2 := Lib.hid hB2
  have HRL2 := Lib.hid hl2
  have HRC2 := Lib.hid hd2
  have HBB2 := Lib.hid hb2
  have HL2 := Lib.hid (HL1.out.trans (hb2.mono HL1.out.size))
  clear hB2 hl2 hd2 hb2 p0 p1 p2 f0 f1
  obtain ⟨p0, p1, p2, f0, f1⟩ := HXP.out _ HL2.out
  go_wp2
  go_ret
  exact ⟨A2, d2, rfl, HRC2.out, HRL2.out, HR2.out, below_t HBW.out HL2.out⟩
set_option maxHeartbeats 4000000 in
theorem tr_false {w : World} {N P K : Option Addr} {nl nc n pc a kl kc : Nat} {l r : List Bool} {o nm : ByteArray} {p : Int} (ho : o.toList = [102, 97, 108, 115, 101]) (ha : a < n) (hn : n ≤ 1000000)
    (hsd : ∀ W, Below w.heap.size w W → Calls Tryz.prog 78 #[plv N nl nc P n pc a, .agg #[.string o, .string nm, .slice K kl kc, .int .i64 p]] W (SdP 0 n l r W)) :
    Calls Tryz.prog 47 #[plv N nl nc P n pc a, .agg #[.string o, .string nm, .slice K kl kc, .int .i64 p]] w (BLn n (List.replicate n false) w) := by
  have g0 : (o.toList == [116, 114, 117, 101]) = false := by rw [ho]; rfl
  have g1 : (o.toList == [108, 97, 98, 101, 108]) = false := by rw [ho]; rfl
  have g2 : (o.toList == [33]) = false := by rw [ho]; rfl
  have g3 : (o.toList == [88]) = false := by rw [ho]; rfl
  have g4 : (o.toList == [61, 62]) = false := by rw [ho]; rfl
  have g5 : (o.toList == [124]) = false := by rw [ho]; rfl
  have g6 : (o.toList == [38]) = false := by rw [ho]; rfl
  have g7 : (o.toList == [70]) = false := by rw [ho]; rfl
  have g8 : (o.toList == [85]) = false := by rw [ho]; rfl
  have g9 : (o.toList == [71]) = false := by rw [ho]; rfl
  have g10 : (o.toList == [82]) = false := by rw [ho]; rfl
  have g11 : (o.toList == [87]) = false := by rw [ho]; rfl
  have HBW := Lib.hid (show Below w.heap.size w ((w.alloc (.cells #[.slice N nl nc, .slice P n pc, .int .i64 (a : Int)] 83)).alloc (.cells #[.string o, .string nm, .slice K kl kc, .int .i64 p] 27)) from below_t (below_alloc _ _) (below_alloc _ _))
  have HSD := Lib.hid (hsd _ HBW.out)
  have HXP := Lib.hid (show ∀ W, Below ((w.alloc (.cells #[.slice N nl nc, .slice P n pc, .int .i64 (a : Int)] 83)).alloc (.cells #[.string o, .string nm, .slice K kl kc, .int .i64 p] 27)).heap.size ((w.alloc (.cells #[.slice N nl nc, .slice P n pc, .int .i64 (a : Int)] 83)).alloc (.cells #[.string o, .string nm, .slice K kl kc, .int .i64 p] 27)) W → TBx w N nl nc P n pc a o nm W from fun W hW => by
    have h1 := ((Bx.new w 83 [.slice N nl nc, .slice P n pc, .int .i64 (a : Int)]).below (below_alloc _ (.cells #[.string o, .string nm, .slice K kl kc, .int .i64 p] 27))).below hW
    have h2 := (Bx.new (w.alloc (.cells #[.slice N nl nc, .slice P n pc, .int .i64 (a : Int)] 83)) 27 [.string o, .string nm, .slice K kl kc, .int .i64 p]).below hW
    rw [show (w.alloc (.cells #[.slice N nl nc, .slice P n pc, .int .i64 (a : Int)] 83)).heap.size = w.heap.size + 1 by simp] at h2
    exact ⟨h1.cell 0, h1.cell 1, h1.cell 2, h2.cell 0, h2.cell 1⟩)
  clear hsd ho
  show Calls Tryz.prog 47 #[.agg #[.slice N nl nc, .slice P n pc, .int .i64 (a : Int)], .agg #[.string o, .string nm, .slice K kl kc, .int .i64 p]] w _
  go_enter Tryz.func47, Tryz.ntmps47
  go_wp2_with fail
  refine (HSD.out).mono ?_
  rintro e w1 ⟨A, c1, B, c2, m1, m2, rfl, hl, hr, hb1⟩
  have HL1 := Lib.hid hb1
  obtain ⟨p0, p1, p2, f0, f1⟩ := HXP.out _ HL1.out
  clear hl hr hb1
  go_wp2_with fail
  refine (all_n (b := false) w1 (by omega) hn).mono ?_
  rintro e w2 ⟨A2, d2, rfl, hd2, hl2, hB2, hb2⟩
  have HR2 := Lib.hid hB2
  have HRL2 := Lib.hid hl2
  have HRC2 := Lib.hid hd2
  have HBB2 := Lib.hid hb2
  have HL2 := Lib.hid (HL1.out.trans (hb2.mono HL1.out.size))
  clear hB2 hl2 hd2 hb2 p0 p1 p2 f0 f1
  obtain ⟨p0, p1, p2, f0, f1⟩ := HXP.out _ HL2.out
  go_wp2
  go_ret
  exact ⟨A2, d2, rfl, HRC2.out, HRL2.out, HR2.out, below_t HBW.out HL2.out⟩
set_option maxHeartbeats 4000000 in
theorem tr_label {w : World} {N P K : Option Addr} {nl nc n pc a kl kc : Nat} {l r : List Bool} {o nm : ByteArray} {p : Int} (ho : o.toList = [108, 97, 98, 101, 108]) (_ha : a < n) (_hn : n ≤ 1000000) {r2 : List Bool} (hlab : ∀ W, Below w.heap.size w W → Calls Tryz.prog 80 #[plv N nl nc P n pc a, .string nm] W (BLn n r2 W))
    (hsd : ∀ W, Below w.heap.size w W → Calls Tryz.prog 78 #[plv N nl nc P n pc a, .agg #[.string o, .string nm, .slice K kl kc, .int .i64 p]] W (SdP 0 n l r W)) :
    Calls Tryz.prog 47 #[plv N nl nc P n pc a, .agg #[.string o, .string nm, .slice K kl kc, .int .i64 p]] w (BLn n (r2) w) := by
  have g0 : (o.toList == [116, 114, 117, 101]) = false := by rw [ho]; rfl
  have g1 : (o.toList == [108, 97, 98, 101, 108]) = true := by rw [ho]; rfl
  have g2 : (o.toList == [33]) = false := by rw [ho]; rfl
  have g3 : (o.toList == [88]) = false := by rw [ho]; rfl
  have g4 : (o.toList == [61, 62]) = false := by rw [ho]; rfl
  have g5 : (o.toList == [124]) = false := by rw [ho]; rfl
  have g6 : (o.toList == [38]) = false := by rw [ho]; rfl
  have g7 : (o.toList == [70]) = false := by rw [ho]; rfl
  have g8 : (o.toList == [85]) = false := by rw [ho]; rfl
  have g9 : (o.toList == [71]) = false := by rw [ho]; rfl
  have g10 : (o.toList == [82]) = false := by rw [ho]; rfl
  have g11 : (o.toList == [87]) = false := by rw [ho]; rfl
  have HBW := Lib.hid (show Below w.heap.size w ((w.alloc (.cells #[.slice N nl nc, .slice P n pc, .int .i64 (a : Int)] 83)).alloc (.cells #[.string o, .string nm, .slice K kl kc, .int .i64 p] 27)) from below_t (below_alloc _ _) (below_alloc _ _))
  have HSD := Lib.hid (hsd _ HBW.out)
  have HXP := Lib.hid (show ∀ W, Below ((w.alloc (.cells #[.slice N nl nc, .slice P n pc, .int .i64 (a : Int)] 83)).alloc (.cells #[.string o, .string nm, .slice K kl kc, .int .i64 p] 27)).heap.size ((w.alloc (.cells #[.slice N nl nc, .slice P n pc, .int .i64 (a : Int)] 83)).alloc (.cells #[.string o, .string nm, .slice K kl kc, .int .i64 p] 27)) W → TBx w N nl nc P n pc a o nm W from fun W hW => by
    have h1 := ((Bx.new w 83 [.slice N nl nc, .slice P n pc, .int .i64 (a : Int)]).below (below_alloc _ (.cells #[.string o, .string nm, .slice K kl kc, .int .i64 p] 27))).below hW
    have h2 := (Bx.new (w.alloc (.cells #[.slice N nl nc, .slice P n pc, .int .i64 (a : Int)] 83)) 27 [.string o, .string nm, .slice K kl kc, .int .i64 p]).below hW
    rw [show (w.alloc (.cells #[.slice N nl nc, .slice P n pc, .int .i64 (a : Int)] 83)).heap.size = w.heap.size + 1 by simp] at h2
    exact ⟨h1.cell 0, h1.cell 1, h1.cell 2, h2.cell 0, h2.cell 1⟩)
  have HLAB := Lib.hid hlab
  clear hlab
  clear hsd ho
  show Calls Tryz.prog 47 #[.agg #[.slice N nl nc, .slice P n pc, .int .i64 (a : Int)], .agg #[.string o, .string nm, .slice K kl kc, .int .i64 p]] w _
  go_enter Tryz.func47, Tryz.ntmps47
  go_wp2_with fail
  refine (HSD.out).mono ?_
  rintro e w1 ⟨A, c1, B, c2, m1, m2, rfl, hl, hr, hb1⟩
  have HL1 := Lib.hid hb1
  obtain ⟨p0, p1, p2, f0, f1⟩ := HXP.out _ HL1.out
  clear hl hr hb1
  go_wp2_with fail
  refine (HLAB.out w1 (below_t HBW.out HL1.out)).mono ?_
  rintro e w2 ⟨A2, d2, rfl, hd2, hl2, hB2, hb2⟩
  have HR2 := Lib.hid hB2
  have HRL2 := Lib.hid hl2
  have HRC2 := Lib.hid hd2
  have HBB2 := Lib.hid hb2
  have HL2 := Lib.hid (HL1.out.trans (hb2.mono HL1.out.size))
  clear hB2 hl2 hd2 hb2 p0 p1 p2 f0 f1
  obtain ⟨p0, p1, p2, f0, f1⟩ := HXP.out _ HL2.out
  go_wp2
  go_ret
  exact ⟨A2, d2, rfl, HRC2.out, HRL2.out, HR2.out, below_t HBW.out HL2.out⟩
set_option maxHeartbeats 4000000 in
theorem tr_not {w : World} {N P K : Option Addr} {nl nc n pc a kl kc : Nat} {l r : List Bool} {o nm : ByteArray} {p : Int} (ho : o.toList = [33]) (_ha : a < n) (hn : n ≤ 1000000)
    (hsd : ∀ W, Below w.heap.size w W → Calls Tryz.prog 78 #[plv N nl nc P n pc a, .agg #[.string o, .string nm, .slice K kl kc, .int .i64 p]] W (SdP 1 n l r W)) :
    Calls Tryz.prog 47 #[plv N nl nc P n pc a, .agg #[.string o, .string nm, .slice K kl kc, .int .i64 p]] w (BLn n (l.map (!·)) w) := by
  have g0 : (o.toList == [116, 114, 117, 101]) = false := by rw [ho]; rfl
  have g1 : (o.toList == [108, 97, 98, 101, 108]) = false := by rw [ho]; rfl
  have g2 : (o.toList == [33]) = true := by rw [ho]; rfl
  have g3 : (o.toList == [88]) = false := by rw [ho]; rfl
  have g4 : (o.toList == [61, 62]) = false := by rw [ho]; rfl
  have g5 : (o.toList == [124]) = false := by rw [ho]; rfl
  have g6 : (o.toList == [38]) = false := by rw [ho]; rfl
  have g7 : (o.toList == [70]) = false := by rw [ho]; rfl
  have g8 : (o.toList == [85]) = false := by rw [ho]; rfl
  have g9 : (o.toList == [71]) = false := by rw [ho]; rfl
  have g10 : (o.toList == [82]) = false := by rw [ho]; rfl
  have g11 : (o.toList == [87]) = false := by rw [ho]; rfl
  have HBW := Lib.hid (show Below w.heap.size w ((w.alloc (.cells #[.slice N nl nc, .slice P n pc, .int .i64 (a : Int)] 83)).alloc (.cells #[.string o, .string nm, .slice K kl kc, .int .i64 p] 27)) from below_t (below_alloc _ _) (below_alloc _ _))
  have HSD := Lib.hid (hsd _ HBW.out)
  have HXP := Lib.hid (show ∀ W, Below ((w.alloc (.cells #[.slice N nl nc, .slice P n pc, .int .i64 (a : Int)] 83)).alloc (.cells #[.string o, .string nm, .slice K kl kc, .int .i64 p] 27)).heap.size ((w.alloc (.cells #[.slice N nl nc, .slice P n pc, .int .i64 (a : Int)] 83)).alloc (.cells #[.string o, .string nm, .slice K kl kc, .int .i64 p] 27)) W → TBx w N nl nc P n pc a o nm W from fun W hW => by
    have h1 := ((Bx.new w 83 [.slice N nl nc, .slice P n pc, .int .i64 (a : Int)]).below (below_alloc _ (.cells #[.string o, .string nm, .slice K kl kc, .int .i64 p] 27))).below hW
    have h2 := (Bx.new (w.alloc (.cells #[.slice N nl nc, .slice P n pc, .int .i64 (a : Int)] 83)) 27 [.string o, .string nm, .slice K kl kc, .int .i64 p]).below hW
    rw [show (w.alloc (.cells #[.slice N nl nc, .slice P n pc, .int .i64 (a : Int)] 83)).heap.size = w.heap.size + 1 by simp] at h2
    exact ⟨h1.cell 0, h1.cell 1, h1.cell 2, h2.cell 0, h2.cell 1⟩)
  clear hsd ho
  show Calls Tryz.prog 47 #[.agg #[.slice N nl nc, .slice P n pc, .int .i64 (a : Int)], .agg #[.string o, .string nm, .slice K kl kc, .int .i64 p]] w _
  go_enter Tryz.func47, Tryz.ntmps47
  go_wp2_with fail
  refine (HSD.out).mono ?_
  rintro e w1 ⟨A, c1, B, c2, m1, m2, rfl, hl, hr, hb1⟩
  obtain ⟨hm1, hc1, hA, hlA⟩ := hl (by omega)
  subst m1
  have HA := Lib.hid hA
  have HLA := Lib.hid hlA
  have HC1 := Lib.hid hc1
  clear hA hlA hc1
  have HL1 := Lib.hid hb1
  obtain ⟨p0, p1, p2, f0, f1⟩ := HXP.out _ HL1.out
  clear hl hr hb1
  go_wp2_with fail
  refine (opp_n w1 HA.out HLA.out hn).mono ?_
  rintro e w2 ⟨A2, d2, rfl, hd2, hl2, hB2, hb2⟩
  have HR2 := Lib.hid hB2
  have HRL2 := Lib.hid hl2
  have HRC2 := Lib.hid hd2
  have HBB2 := Lib.hid hb2
  have HL2 := Lib.hid (HL1.out.trans (hb2.mono HL1.out.size))
  clear hB2 hl2 hd2 hb2 p0 p1 p2 f0 f1
  obtain ⟨p0, p1, p2, f0, f1⟩ := HXP.out _ HL2.out
  go_wp2
  go_ret
  exact ⟨A2, d2, rfl, HRC2.out, HRL2.out, HR2.out, below_t HBW.out HL2.out⟩
set_option maxHeartbeats 4000000 in
theorem tr_next {w : World} {N P K : Option Addr} {nl nc n pc a kl kc : Nat} {l r : List Bool} {o nm : ByteArray} {p : Int} (ho : o.toList = [88]) (ha : a < n) (hn : n ≤ 1000000)
    (hsd : ∀ W, Below w.heap.size w W → Calls Tryz.prog 78 #[plv N nl nc P n pc a, .agg #[.string o, .string nm, .slice K kl kc, .int .i64 p]] W (SdP 1 n l r W)) :
    Calls Tryz.prog 47 #[plv N nl nc P n pc a, .agg #[.string o, .string nm, .slice K kl kc, .int .i64 p]] w (BLn n (nextL a l) w) := by
  have g0 : (o.toList == [116, 114, 117, 101]) = false := by rw [ho]; rfl
  have g1 : (o.toList == [108, 97, 98, 101, 108]) = false := by rw [ho]; rfl
  have g2 : (o.toList == [33]) = false := by rw [ho]; rfl
  have g3 : (o.toList == [88]) = true := by rw [ho]; rfl
  have g4 : (o.toList == [61, 62]) = false := by rw [ho]; rfl
  have g5 : (o.toList == [124]) = false := by rw [ho]; rfl
  have g6 : (o.toList == [38]) = false := by rw [ho]; rfl
  have g7 : (o.toList == [70]) = false := by rw [ho]; rfl
  have g8 : (o.toList == [85]) = false := by rw [ho]; rfl
  have g9 : (o.toList == [71]) = false := by rw [ho]; rfl
  have g10 : (o.toList == [82]) = false := by rw [ho]; rfl
  have g11 : (o.toList == [87]) = false := by rw [ho]; rfl
  have HBW := Lib.hid (show Below w.heap.size w ((w.alloc (.cells #[.slice N nl nc, .slice P n pc, .int .i64 (a : Int)] 83)).alloc (.cells #[.string o, .string nm, .slice K kl kc, .int .i64 p] 27)) from below_t (below_alloc _ _) (below_alloc _ _))
  have HSD := Lib.hid (hsd _ HBW.out)
  have HXP := Lib.hid (show ∀ W, Below ((w.alloc (.cells #[.slice N nl nc, .slice P n pc, .int .i64 (a : Int)] 83)).alloc (.cells #[.string o, .string nm, .slice K kl kc, .int .i64 p] 27)).heap.size ((w.alloc (.cells #[.slice N nl nc, .slice P n pc, .int .i64 (a : Int)] 83)).alloc (.cells #[.string o, .string nm, .slice K kl kc, .int .i64 p] 27)) W → TBx w N nl nc P n pc a o nm W from fun W hW => by
    have h1 := ((Bx.new w 83 [.slice N nl nc, .slice P n pc, .int .i64 (a : Int)]).below (below_alloc _ (.cells #[.string o, .string nm, .slice K kl kc, .int .i64 p] 27))).below hW
    have h2 := (Bx.new (w.alloc (.cells #[.slice N nl nc, .slice P n pc, .int .i64 (a : Int)] 83)) 27 [.string o, .string nm, .slice K kl kc, .int .i64 p]).below hW
    rw [show (w.alloc (.cells #[.slice N nl nc, .slice P n pc, .int .i64 (a : Int)] 83)).heap.size = w.heap.size + 1 by simp] at h2
    exact ⟨h1.cell 0, h1.cell 1, h1.cell 2, h2.cell 0, h2.cell 1⟩)
  clear hsd ho
  show Calls Tryz.prog 47 #[.agg #[.slice N nl nc, .slice P n pc, .int .i64 (a : Int)], .agg #[.string o, .string nm, .slice K kl kc, .int .i64 p]] w _
  go_enter Tryz.func47, Tryz.ntmps47
  go_wp2_with fail
  refine (HSD.out).mono ?_
  rintro e w1 ⟨A, c1, B, c2, m1, m2, rfl, hl, hr, hb1⟩
  obtain ⟨hm1, hc1, hA, hlA⟩ := hl (by omega)
  subst m1
  have HA := Lib.hid hA
  have HLA := Lib.hid hlA
  have HC1 := Lib.hid hc1
  clear hA hlA hc1
  have HL1 := Lib.hid hb1
  obtain ⟨p0, p1, p2, f0, f1⟩ := HXP.out _ HL1.out
  clear hl hr hb1
  go_wp2_with fail
  refine (next_n w1 HA.out HLA.out hn ha HC1.out).mono ?_
  rintro e w2 ⟨A2, d2, rfl, hd2, hl2, hB2, hb2⟩
  have HR2 := Lib.hid hB2
  have HRL2 := Lib.hid hl2
  have HRC2 := Lib.hid hd2
  have HBB2 := Lib.hid hb2
  have HL2 := Lib.hid (HL1.out.trans (hb2.mono HL1.out.size))
  clear hB2 hl2 hd2 hb2 p0 p1 p2 f0 f1
  obtain ⟨p0, p1, p2, f0, f1⟩ := HXP.out _ HL2.out
  go_wp2
  go_ret
  exact ⟨A2, d2, rfl, HRC2.out, HRL2.out, HR2.out, below_t HBW.out HL2.out⟩
set_option maxHeartbeats 4000000 in
theorem tr_imp {w : World} {N P K : Option Addr} {nl nc n pc a kl kc : Nat} {l r : List Bool} {o nm : ByteArray} {p : Int} (ho : o.toList = [61, 62]) (_ha : a < n) (hn : n ≤ 1000000)
    (hsd : ∀ W, Below w.heap.size w W → Calls Tryz.prog 78 #[plv N nl nc P n pc a, .agg #[.string o, .string nm, .slice K kl kc, .int .i64 p]] W (SdP 2 n l r W)) :
    Calls Tryz.prog 47 #[plv N nl nc P n pc a, .agg #[.string o, .string nm, .slice K kl kc, .int .i64 p]] w (BLn n (eithL (l.map (!·)) r) w) := by
  have g0 : (o.toList == [116, 114, 117, 101]) = false := by rw [ho]; rfl
  have g1 : (o.toList == [108, 97, 98, 101, 108]) = false := by rw [ho]; rfl
  have g2 : (o.toList == [33]) = false := by rw [ho]; rfl
  have g3 : (o.toList == [88]) = false := by rw [ho]; rfl
  have g4 : (o.toList == [61, 62]) = true := by rw [ho]; rfl
  have g5 : (o.toList == [124]) = false := by rw [ho]; rfl
  have g6 : (o.toList == [38]) = false := by rw [ho]; rfl
  have g7 : (o.toList == [70]) = false := by rw [ho]; rfl
  have g8 : (o.toList == [85]) = false := by rw [ho]; rfl
  have g9 : (o.toList == [71]) = false := by rw [ho]; rfl
  have g10 : (o.toList == [82]) = false := by rw [ho]; rfl
  have g11 : (o.toList == [87]) = false := by rw [ho]; rfl
  have HBW := Lib.hid (show Below w.heap.size w ((w.alloc (.cells #[.slice N nl nc, .slice P n pc, .int .i64 (a : Int)] 83)).alloc (.cells #[.string o, .string nm, .slice K kl kc, .int .i64 p] 27)) from below_t (below_alloc _ _) (below_alloc _ _))
  have HSD := Lib.hid (hsd _ HBW.out)
  have HXP := Lib.hid (show ∀ W, Below ((w.alloc (.cells #[.slice N nl nc, .slice P n pc, .int .i64 (a : Int)] 83)).alloc (.cells #[.string o, .string nm, .slice K kl kc, .int .i64 p] 27)).heap.size ((w.alloc (.cells #[.slice N nl nc, .slice P n pc, .int .i64 (a : Int)] 83)).alloc (.cells #[.string o, .string nm, .slice K kl kc, .int .i64 p] 27)) W → TBx w N nl nc P n pc a o nm W from fun W hW => by
    have h1 := ((Bx.new w 83 [.slice N nl nc, .slice P n pc, .int .i64 (a : Int)]).below (below_alloc _ (.cells #[.string o, .string nm, .slice K kl kc, .int .i64 p] 27))).below hW
    have h2 := (Bx.new (w.alloc (.cells #[.slice N nl nc, .slice P n pc, .int .i64 (a : Int)] 83)) 27 [.string o, .string nm, .slice K kl kc, .int .i64 p]).below hW
    rw [show (w.alloc (.cells #[.slice N nl nc, .slice P n pc, .int .i64 (a : Int)] 83)).heap.size = w.heap.size + 1 by simp] at h2
    exact ⟨h1.cell 0, h1.cell 1, h1.cell 2, h2.cell 0, h2.cell 1⟩)
  clear hsd ho
  show Calls Tryz.prog 47 #[.agg #[.slice N nl nc, .slice P n pc, .int .i64 (a : Int)], .agg #[.string o, .string nm, .slice K kl kc, .int .i64 p]] w _
  go_enter Tryz.func47, Tryz.ntmps47
  go_wp2_with fail
  refine (HSD.out).mono ?_
  rintro e w1 ⟨A, c1, B, c2, m1, m2, rfl, hl, hr, hb1⟩
  obtain ⟨hm1, hc1, hA, hlA⟩ := hl (by omega)
  subst m1
  have HA := Lib.hid hA
  have HLA := Lib.hid hlA
  have HC1 := Lib.hid hc1
  clear hA hlA hc1
  obtain ⟨hm2, -, hB, hlB⟩ := hr (by omega)
  subst m2
  have HB := Lib.hid hB
  have HLB := Lib.hid hlB
  clear hB hlB
  have HL1 := Lib.hid hb1
  obtain ⟨p0, p1, p2, f0, f1⟩ := HXP.out _ HL1.out
  clear hl hr hb1
  go_wp2_with fail
  refine (opp_n w1 HA.out HLA.out hn).mono ?_
  rintro e w2 ⟨A2, d2, rfl, hd2, hl2, hB2, hb2⟩
  have HR2 := Lib.hid hB2
  have HRL2 := Lib.hid hl2
  have HRC2 := Lib.hid hd2
  have HBB2 := Lib.hid hb2
  have HL2 := Lib.hid (HL1.out.trans (hb2.mono HL1.out.size))
  clear hB2 hl2 hd2 hb2 p0 p1 p2 f0 f1
  obtain ⟨p0, p1, p2, f0, f1⟩ := HXP.out _ HL2.out
  go_wp2_with fail
  refine (either_n w2 HR2.out ((HB.out).below HBB2.out) HRL2.out HLB.out hn).mono ?_
  rintro e w3 ⟨A3, d3, rfl, hd3, hl3, hB3, hb3⟩
  have HR3 := Lib.hid hB3
  have HRL3 := Lib.hid hl3
  have HRC3 := Lib.hid hd3
  have HBB3 := Lib.hid hb3
  have HL3 := Lib.hid (HL2.out.trans (hb3.mono HL2.out.size))
  clear hB3 hl3 hd3 hb3 p0 p1 p2 f0 f1
  obtain ⟨p0, p1, p2, f0, f1⟩ := HXP.out _ HL3.out
  go_wp2
  go_ret
  exact ⟨A3, d3, rfl, HRC3.out, HRL3.out, HR3.out, below_t HBW.out HL3.out⟩
end
section
open Go.RowKit

set_option maxHeartbeats 4000000 in
theorem tr_or {w : World} {N P K : Option Addr} {nl nc n pc a kl kc : Nat} {l r : List Bool} {o nm : ByteArray} {p : Int} (ho : o.toList = [124]) (_ha : a < n) (hn : n ≤ 1000000)
    (hsd : ∀ W, Below w.heap.size w W → Calls Tryz.prog 78 #[plv N nl nc P n pc a, .agg #[.string o, .string nm, .slice K kl kc, .int .i64 p]] W (SdP 2 n l r W)) :
    Calls Tryz.prog 47 #[plv N nl nc P n pc a, .agg #[.string o, .string nm, .slice K kl kc, .int .i64 p]] w (BLn n (eithL l r) w) := by
  have g0 : (o.toList == [116, 114, 117, 101]) = false := by rw [ho]; rfl
  have g1 : (o.toList == [108, 97, 98, 101, 108]) = false := by rw [ho]; rfl
  have g2 : (o.toList == [33]) = false := by rw [ho]; rfl
  have g3 : (o.toList == [88]) = false := by rw [ho]; rfl
  have g4 : (o.toList == [61, 62]) = false := by rw [ho]; rfl
  have g5 : (o.toList == [124]) = true := by rw [ho]; rfl
  have g6 : (o.toList == [38]) = false := by rw [ho]; rfl
  have g7 : (o.toList == [70]) = false := by rw [ho]; rfl
  have g8 : (o.toList == [85]) = false := by rw [ho]; rfl
  have g9 : (o.toList == [71]) = false := by rw [ho]; rfl
  have g10 : (o.toList == [82]) = false := by rw [ho]; rfl
  have g11 : (o.toList == [87]) = false := by rw [ho]; rfl
  have HBW := Lib.hid (show Below w.heap.size w ((w.alloc (.cells #[.slice N nl nc, .slice P n pc, .int .i64 (a : Int)] 83)).alloc (.cells #[.string o, .string nm, .slice K kl kc, .int .i64 p] 27)) from below_t (below_alloc _ _) (below_alloc _ _))
  have HSD := Lib.hid (hsd _ HBW.out)
  have HXP := Lib.hid (show ∀ W, Below ((w.alloc (.cells #[.slice N nl nc, .slice P n pc, .int .i64 (a : Int)] 83)).alloc (.cells #[.string o, .string nm, .slice K kl kc, .int .i64 p] 27)).heap.size ((w.alloc (.cells #[.slice N nl nc, .slice P n pc, .int .i64 (a : Int)] 83)).alloc (.cells #[.string o, .string nm, .slice K kl kc, .int .i64 p] 27)) W → TBx w N nl nc P n pc a o nm W from fun W hW => by
    have h1 := ((Bx.new w 83 [.slice N nl nc, .slice P n pc, .int .i64 (a : Int)]).below (below_alloc _ (.cells #[.string o, .string nm, .slice K kl kc, .int .i64 p] 27))).below hW
    have h2 := (Bx.new (w.alloc (.cells #[.slice N nl nc, .slice P n pc, .int .i64 (a : Int)] 83)) 27 [.string o, .string nm, .slice K kl kc, .int .i64 p]).below hW
    rw [show (w.alloc (.cells #[.slice N nl nc, .slice P n pc, .int .i64 (a : Int)] 83)).heap.size = w.heap.size + 1 by simp] at h2
    exact ⟨h1.cell 0, h1.cell 1, h1.cell 2, h2.cell 0, h2.cell 1⟩)
  clear hsd ho
  show Calls Tryz.prog 47 #[.agg #[.slice N nl nc, .slice P n pc, .int .i64 (a : Int)], .agg #[.string o, .string nm, .slice K kl kc, .int .i64 p]] w _
  go_enter Tryz.func47, Tryz.ntmps47
  go_wp2_with fail
  refine (HSD.out).mono ?_
  rintro e w1 ⟨A, c1, B, c2, m1, m2, rfl, hl, hr, hb1⟩
  obtain ⟨hm1, hc1, hA, hlA⟩ := hl (by omega)
  subst m1
  have HA := Lib.hid hA
  have HLA := Lib.hid hlA
  have HC1 := Lib.hid hc1
  clear hA hlA hc1
  obtain ⟨hm2, -, hB, hlB⟩ := hr (by omega)
  subst m2
  have HB := Lib.hid hB
  have HLB := Lib.hid hlB
  clear hB hlB
  have HL1 := Lib.hid hb1
  obtain ⟨p0, p1, p2, f0, f1⟩ := HXP.out _ HL1.out
  clear hl hr hb1
  go_wp2_with fail
  refine (either_n w1 HA.out HB.out HLA.out HLB.out hn).mono ?_
  rintro e w2 ⟨A2, d2, rfl, hd2, hl2, hB2, hb2⟩
  have HR2 := Lib.hid hB2
  have HRL2 := Lib.hid hl2
  have HRC2 := Lib.hid hd2
  have HBB2 := Lib.hid hb2
  have HL2 := Lib.hid (HL1.out.trans (hb2.mono HL1.out.size))
  clear hB2 hl2 hd2 hb2 p0 p1 p2 f0 f1
  obtain ⟨p0, p1, p2, f0, f1⟩ := HXP.out _ HL2.out
  go_wp2
  go_ret
  exact ⟨A2, d2, rfl, HRC2.out, HRL2.out, HR2.out, below_t HBW.out HL2.out⟩
set_option maxHeartbeats 4000000 in
theorem tr_and {w : World} {N P K : Option Addr} {nl nc n pc a kl kc : Nat} {l r : List Bool} {o nm : ByteArray} {p : Int} (ho : o.toList = [38]) (_ha : a < n) (hn : n ≤ 1000000)
    (hsd : ∀ W, Below w.heap.size w W → Calls Tryz.prog 78 #[plv N nl nc P n pc a, .agg #[.string o, .string nm, .slice K kl kc, .int .i64 p]] W (SdP 2 n l r W)) :
    Calls Tryz.prog 47 #[plv N nl nc P n pc a, .agg #[.string o, .string nm, .slice K kl kc, .int .i64 p]] w (BLn n (bothL l r) w) := by
  have g0 : (o.toList == [116, 114, 117, 101]) = false := by rw [ho]; rfl
  have g1 : (o.toList == [108, 97, 98, 101, 108]) = false := by rw [ho]; rfl
  have g2 : (o.toList == [33]) = false := by rw [ho]; rfl
  have g3 : (o.toList == [88]) = false := by rw [ho]; rfl
  have g4 : (o.toList == [61, 62]) = false := by rw [ho]; rfl
  have g5 : (o.toList == [124]) = false := by rw [ho]; rfl
  have g6 : (o.toList == [38]) = true := by rw [ho]; rfl
  have g7 : (o.toList == [70]) = false := by rw [ho]; rfl
  have g8 : (o.toList == [85]) = false := by rw [ho]; rfl
  have g9 : (o.toList == [71]) = false := by rw [ho]; rfl
  have g10 : (o.toList == [82]) = false := by rw [ho]; rfl
  have g11 : (o.toList == [87]) = false := by rw [ho]; rfl
  have HBW := Lib.hid (show Below w.heap.size w ((w.alloc (.cells #[.slice N nl nc, .slice P n pc, .int .i64 (a : Int)] 83)).alloc (.cells #[.string o, .string nm, .slice K kl kc, .int .i64 p] 27)) from below_t (below_alloc _ _) (below_alloc _ _))
  have HSD := Lib.hid (hsd _ HBW.out)
  have HXP := Lib.hid (show ∀ W, Below ((w.alloc (.cells #[.slice N nl nc, .slice P n pc, .int .i64 (a : Int)] 83)).alloc (.cells #[.string o, .string nm, .slice K kl kc, .int .i64 p] 27)).heap.size ((w.alloc (.cells #[.slice N nl nc, .slice P n pc, .int .i64 (a : Int)] 83)).alloc (.cells #[.string o, .string nm, .slice K kl kc, .int .i64 p] 27)) W → TBx w N nl nc P n pc a o nm W from fun W hW => by
    have h1 := ((Bx.new w 83 [.slice N nl nc, .slice P n pc, .int .i64 (a : Int)]).below (below_alloc _ (.cells #[.string o, .string nm, .slice K kl kc, .int .i64 p] 27))).below hW
    have h2 := (Bx.new (w.alloc (.cells #[.slice N nl nc, .slice P n pc, .int .i64 (a : Int)] 83)) 27 [.string o, .string nm, .slice K kl kc, .int .i64 p]).below hW
    rw [show (w.alloc (.cells #[.slice N nl nc, .slice P n pc, .int .i64 (a : Int)] 83)).heap.size = w.heap.size + 1 by simp] at h2
    exact ⟨h1.cell 0, h1.cell 1, h1.cell 2, h2.cell 0, h2.cell 1⟩)
  clear hsd ho
  show Calls Tryz.prog 47 #[.agg #[.slice N nl nc, .slice P n pc, .int .i64 (a : Int)], .agg #[.string o, .string nm, .slice K kl kc, .int .i64 p]] w _
  go_enter Tryz.func47, Tryz.ntmps47
  go_wp2_with fail
  refine (HSD.out).mono ?_
  rintro e w1 ⟨A, c1, B, c2, m1, m2, rfl, hl, hr, hb1⟩
  obtain ⟨hm1, hc1, hA, hlA⟩ := hl (by omega)
  subst m1
  have HA := Lib.hid hA
  have HLA := Lib.hid hlA
  have HC1 := Lib.hid hc1
  clear hA hlA hc1
  obtain ⟨hm2, -, hB, hlB⟩ := hr (by omega)
  subst m2
  have HB := Lib.hid hB
  have HLB := Lib.hid hlB
  clear hB hlB
  have HL1 := Lib.hid hb1
  obtain ⟨p0, p1, p2, f0, f1⟩ := HXP.out _ HL1.out
  clear hl hr hb1
  go_wp2_with fail
  refine (both_n w1 HA.out HB.out HLA.out HLB.out hn).mono ?_
  rintro e w2 ⟨A2, d2, rfl, hd2, hl2, hB2, hb2⟩
  have HR2 := Lib.hid hB2
  have HRL2 := Lib.hid hl2
  have HRC2 := Lib.hid hd2
  have HBB2 := Lib.hid hb2
  have HL2 := Lib.hid (HL1.out.trans (hb2.mono HL1.out.size))
  clear hB2 hl2 hd2 hb2 p0 p1 p2 f0 f1
  obtain ⟨p0, p1, p2, f0, f1⟩ := HXP.out _ HL2.out
  go_wp2
  go_ret
  exact ⟨A2, d2, rfl, HRC2.out, HRL2.out, HR2.out, below_t HBW.out HL2.out⟩
set_option maxHeartbeats 4000000 in
theorem tr_F {w : World} {N P K : Option Addr} {nl nc n pc a kl kc : Nat} {l r : List Bool} {o nm : ByteArray} {p : Int} (ho : o.toList = [70]) (ha : a < n) (hn : n ≤ 1000000)
    (hsd : ∀ W, Below w.heap.size w W → Calls Tryz.prog 78 #[plv N nl nc P n pc a, .agg #[.string o, .string nm, .slice K kl kc, .int .i64 p]] W (SdP 1 n l r W)) :
    Calls Tryz.prog 47 #[plv N nl nc P n pc a, .agg #[.string o, .string nm, .slice K kl kc, .int .i64 p]] w (BLn n (untL a (List.replicate n true) l false) w) := by
  have g0 : (o.toList == [116, 114, 117, 101]) = false := by rw [ho]; rfl
  have g1 : (o.toList == [108, 97, 98, 101, 108]) = false := by rw [ho]; rfl
  have g2 : (o.toList == [33]) = false := by rw [ho]; rfl
  have g3 : (o.toList == [88]) = false := by rw [ho]; rfl
  have g4 : (o.toList == [61, 62]) = false := by rw [ho]; rfl
  have g5 : (o.toList == [124]) = false := by rw [ho]; rfl
  have g6 : (o.toList == [38]) = false := by rw [ho]; rfl
  have g7 : (o.toList == [70]) = true := by rw [ho]; rfl
  have g8 : (o.toList == [85]) = false := by rw [ho]; rfl
  have g9 : (o.toList == [71]) = false := by rw [ho]; rfl
  have g10 : (o.toList == [82]) = false := by rw [ho]; rfl
  have g11 : (o.toList == [87]) = false := by rw [ho]; rfl
  have HBW := Lib.hid (show Below w.heap.size w ((w.alloc (.cells #[.slice N nl nc, .slice P n pc, .int .i64 (a : Int)] 83)).alloc (.cells #[.string o, .string nm, .slice K kl kc, .int .i64 p] 27)) from below_t (below_alloc _ _) (below_alloc _ _))
  have HSD := Lib.hid (hsd _ HBW.out)
  have HXP := Lib.hid (show ∀ W, Below ((w.alloc (.cells #[.slice N nl nc, .slice P n pc, .int .i64 (a : Int)] 83)).alloc (.cells #[.string o, .string nm, .slice K kl kc, .int .i64 p] 27)).heap.size ((w.alloc (.cells #[.slice N nl nc, .slice P n pc, .int .i64 (a : Int)] 83)).alloc (.cells #[.string o, .string nm, .slice K kl kc, .int .i64 p] 27)) W → TBx w N nl nc P n pc a o nm W from fun W hW => by
    have h1 := ((Bx.new w 83 [.slice N nl nc, .slice P n pc, .int .i64 (a : Int)]).below (below_alloc _ (.cells #[.string o, .string nm, .slice K kl kc, .int .i64 p] 27))).below hW
    have h2 := (Bx.new (w.alloc (.cells #[.slice N nl nc, .slice P n pc, .int .i64 (a : Int)] 83)) 27 [.string o, .string nm, .slice K kl kc, .int .i64 p]).below hW
    rw [show (w.alloc (.cells #[.slice N nl nc, .slice P n pc, .int .i64 (a : Int)] 83)).heap.size = w.heap.size + 1 by simp] at h2
    exact ⟨h1.cell 0, h1.cell 1, h1.cell 2, h2.cell 0, h2.cell 1⟩)
  clear hsd ho
  show Calls Tryz.prog 47 #[.agg #[.slice N nl nc, .slice P n pc, .int .i64 (a : Int)], .agg #[.string o, .string nm, .slice K kl kc, .int .i64 p]] w _
  go_enter Tryz.func47, Tryz.ntmps47
  go_wp2_with fail
  refine (HSD.out).mono ?_
  rintro e w1 ⟨A, c1, B, c2, m1, m2, rfl, hl, hr, hb1⟩
  obtain ⟨hm1, hc1, hA, hlA⟩ := hl (by omega)
  subst m1
  have HA := Lib.hid hA
  have HLA := Lib.hid hlA
  have HC1 := Lib.hid hc1
  clear hA hlA hc1
  have HL1 := Lib.hid hb1
  obtain ⟨p0, p1, p2, f0, f1⟩ := HXP.out _ HL1.out
  clear hl hr hb1
  go_wp2_with fail
  refine (all_n (b := true) w1 (by omega) hn).mono ?_
  rintro e w2 ⟨A2, d2, rfl, hd2, hl2, hB2, hb2⟩
  have HR2 := Lib.hid hB2
  have HRL2 := Lib.hid hl2
  have HRC2 := Lib.hid hd2
  have HBB2 := Lib.hid hb2
  have HL2 := Lib.hid (HL1.out.trans (hb2.mono HL1.out.size))
  clear hB2 hl2 hd2 hb2 p0 p1 p2 f0 f1
  obtain ⟨p0, p1, p2, f0, f1⟩ := HXP.out _ HL2.out
  go_wp2_with fail
  refine (until_n (x := false) w2 HR2.out ((HA.out).below HBB2.out) HRL2.out HLA.out hn ha).mono ?_
  rintro e w3 ⟨A3, d3, rfl, hd3, hl3, hB3, hb3⟩
  have HR3 := Lib.hid hB3
  have HRL3 := Lib.hid hl3
  have HRC3 := Lib.hid hd3
  have HBB3 := Lib.hid hb3
  have HL3 := Lib.hid (HL2.out.trans (hb3.mono HL2.out.size))
  clear hB3 hl3 hd3 hb3 p0 p1 p2 f0 f1
  obtain ⟨p0, p1, p2, f0, f1⟩ := HXP.out _ HL3.out
  go_wp2
  go_ret
  exact ⟨A3, d3, rfl, HRC3.out, HRL3.out, HR3.out, below_t HBW.out HL3.out⟩
set_option maxHeartbeats 4000000 in
theorem tr_U {w : World} {N P K : Option Addr} {nl nc n pc a kl kc : Nat} {l r : List Bool} {o nm : ByteArray} {p : Int} (ho : o.toList = [85]) (ha : a < n) (hn : n ≤ 1000000)
    (hsd : ∀ W, Below w.heap.size w W → Calls Tryz.prog 78 #[plv N nl nc P n pc a, .agg #[.string o, .string nm, .slice K kl kc, .int .i64 p]] W (SdP 2 n l r W)) :
    Calls Tryz.prog 47 #[plv N nl nc P n pc a, .agg #[.string o, .string nm, .slice K kl kc, .int .i64 p]] w (BLn n (untL a l r false) w) := by
  have g0 : (o.toList == [116, 114, 117, 101]) = false := by rw [ho]; rfl
  have g1 : (o.toList == [108, 97, 98, 101, 108]) = false := by rw [ho]; rfl
  have g2 : (o.toList == [33]) = false := by rw [ho]; rfl
  have g3 : (o.toList == [88]) = false := by rw [ho]; rfl
  have g4 : (o.toList == [61, 62]) = false := by rw [ho]; rfl
  have g5 : (o.toList == [124]) = false := by rw [ho]; rfl
  have g6 : (o.toList == [38]) = false := by rw [ho]; rfl
  have g7 : (o.toList == [70]) = false := by rw [ho]; rfl
  have g8 : (o.toList == [85]) = true := by rw [ho]; rfl
  have g9 : (o.toList == [71]) = false := by rw [ho]; rfl
  have g10 : (o.toList == [82]) = false := by rw [ho]; rfl
  have g11 : (o.toList == [87]) = false := by rw [ho]; rfl
  have HBW := Lib.hid (show Below w.heap.size w ((w.alloc (.cells #[.slice N nl nc, .slice P n pc, .int .i64 (a : Int)] 83)).alloc (.cells #[.string o, .string nm, .slice K kl kc, .int .i64 p] 27)) from below_t (below_alloc _ _) (below_alloc _ _))
  have HSD := Lib.hid (hsd _ HBW.out)
  have HXP := Lib.hid (show ∀ W, Below ((w.alloc (.cells #[.slice N nl nc, .slice P n pc, .int .i64 (a : Int)] 83)).alloc (.cells #[.string o, .string nm, .slice K kl kc, .int .i64 p] 27)).heap.size ((w.alloc (.cells #[.slice N nl nc, .slice P n pc, .int .i64 (a : Int)] 83)).alloc (.cells #[.string o, .string nm, .slice K kl kc, .int .i64 p] 27)) W → TBx w N nl nc P n pc a o nm W from fun W hW => by
    have h1 := ((Bx.new w 83 [.slice N nl nc, .slice P n pc, .int .i64 (a : Int)]).below (below_alloc _ (.cells #[.string o, .string nm, .slice K kl kc, .int .i64 p] 27))).below hW
    have h2 := (Bx.new (w.alloc (.cells #[.slice N nl nc, .slice P n pc, .int .i64 (a : Int)] 83)) 27 [.string o, .string nm, .slice K kl kc, .int .i64 p]).below hW
    rw [show (w.alloc (.cells #[.slice N nl nc, .slice P n pc, .int .i64 (a : Int)] 83)).heap.size = w.heap.size + 1 by simp] at h2
    exact ⟨h1.cell 0, h1.cell 1, h1.cell 2, h2.cell 0, h2.cell 1⟩)
  clear hsd ho
  show Calls Tryz.prog 47 #[.agg #[.slice N nl nc, .slice P n pc, .int .i64 (a : Int)], .agg #[.string o, .string nm, .slice K kl kc, .int .i64 p]] w _
  go_enter Tryz.func47, Tryz.ntmps47
  go_wp2_with fail
  refine (HSD.out).mono ?_
  rintro e w1 ⟨A, c1, B, c2, m1, m2, rfl, hl, hr, hb1⟩
  obtain ⟨hm1, hc1, hA, hlA⟩ := hl (by omega)
  subst m1
  have HA := Lib.hid hA
  have HLA := Lib.hid hlA
  have HC1 := Lib.hid hc1
  clear hA hlA hc1
  obtain ⟨hm2, -, hB, hlB⟩ := hr (by omega)
  subst m2
  have HB := Lib.hid hB
  have HLB := Lib.hid hlB
  clear hB hlB
  have HL1 := Lib.hid hb1
  obtain ⟨p0, p1, p2, f0, f1⟩ := HXP.out _ HL1.out
  clear hl hr hb1
  go_wp2_with fail
  refine (until_n (x := false) w1 HA.out HB.out HLA.out HLB.out hn ha).mono ?_
  rintro e w2 ⟨A2, d2, rfl, hd2, hl2, hB2, hb2⟩
  have HR2 := Lib.hid hB2
  have HRL2 := Lib.hid hl2
  have HRC2 := Lib.hid hd2
  have HBB2 := Lib.hid hb2
  have HL2 := Lib.hid (HL1.out.trans (hb2.mono HL1.out.size))
  clear hB2 hl2 hd2 hb2 p0 p1 p2 f0 f1
  obtain ⟨p0, p1, p2, f0, f1⟩ := HXP.out _ HL2.out
  go_wp2
  go_ret
  exact ⟨A2, d2, rfl, HRC2.out, HRL2.out, HR2.out, below_t HBW.out HL2.out⟩
end
end Go.Proofs.YtmgjpjjglghbaaaGreatDoor
