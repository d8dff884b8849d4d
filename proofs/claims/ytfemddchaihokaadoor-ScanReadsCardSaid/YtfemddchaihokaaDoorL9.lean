/-
  A reader: what it is at.
-/
import Derived.Test.YtfemddchaihokaaDoorN0
import Derived.RegionTactic
import Derived.BigRegion
namespace Go.Proofs.YtfemddchaihokaaDoor
open Go.RowKit

def tokV (t : Tok) : Value := .agg #[.int .i64 t.kind, .string ⟨t.text.toArray⟩, .int .i64 t.pos]
/-- What Peek tells. -/
def PeekIs (r : Value) (t : Tok) (w : World) : Prop := Calls Tryd.prog 15 #[r] w fun e w' => e = .returned (tokV t) ∧ Below w.heap.size w w'

theorem peek_nil (w : World) : PeekIs (.pointer none) ⟨0, [], 0⟩ w := by
  unfold PeekIs
  go_enter Tryd.func15, Tryd.ntmps15
  go_wp2
  exact bodyPost_ret (v := tokV ⟨0, [], 0⟩) (by simp [results, Tryd.results15, go_sem, tokV]) rfl ⟨rfl, (Below.refl _ _).alloc (Nat.le_refl _) _⟩

/-- A reader in memory. -/
def RD (w : World) (rb : Nat) (ts : List Tok) (k : Nat) : Prop :=
  ∃ g cap, w.heap[rb]? = some (.cells #[.slice (some ⟨g, 0, none⟩) ts.length cap, .int .i64 (k : Int)] 70 (0, 0)) ∧ w.ownsRow 0 34 3 (.slice (some ⟨g, 0, none⟩) ts.length cap) ts.length (cellsT ts) ∧ k < ts.length ∧ ts.length ≤ 65537
theorem RD.lt {w : World} {rb : Nat} {ts : List Tok} {k : Nat} (h : RD w rb ts k) : rb < w.heap.size := by
  obtain ⟨g, cap, h1, _⟩ := h
  rcases Nat.lt_or_ge rb w.heap.size with hlt | hge
  · exact hlt
  · rw [Array.getElem?_eq_none hge] at h1; cases h1
theorem RD.below {w w' : World} {rb : Nat} {ts : List Tok} {k : Nat} (h : RD w rb ts k) (hb : Below w.heap.size w w') : RD w' rb ts k := by
  have hl := h.lt
  obtain ⟨g, cap, h1, h2, h3, h4⟩ := h
  exact ⟨g, cap, (hb.block rb hl).trans h1, owns_below h2 hb, h3, h4⟩
theorem rd_cell {w : World} {b : Nat} {cs : Array Value} {t : TypeId} (h : w.heap[b]? = some (.cells cs t (0, 0))) (i : Nat) : w.cell? ⟨b, i, none⟩ = cs[i]? := cell_of_row w b i cs t (0, 0) h
theorem rd_frozen {w : World} {b : Nat} {cs : Array Value} {t : TypeId} (h : w.heap[b]? = some (.cells cs t (0, 0))) (i : Nat) : w.frozen? ⟨b, i, none⟩ = false := by simp [World.frozen?, h]

set_option maxHeartbeats 1000000 in
theorem peek_at {w : World} {rb : Nat} {ts : List Tok} {k : Nat} {t : Tok} (h : RD w rb ts k) (ht : ts[k]? = some t) : PeekIs (.pointer (some ⟨rb, 0, none⟩)) t w := by
  have hrl := h.lt
  obtain ⟨g, cap, h1, h2, h3, h4⟩ := h
  have hgl : g < w.heap.size := (h2.lt g rfl).2
  obtain ⟨c0, c1, c2⟩ := tok_cells h2 ht
  have r0 := rd_cell h1 0
  have r1 := rd_cell h1 1
  simp only [List.getElem?_toArray, List.getElem?_cons_zero, List.getElem?_cons_succ] at r0 r1
  have hz : ((ts.length : Int) == 0) = false := by rw [beq_eq_false_iff_ne]; omega
  clear h1 h2 ht
  unfold PeekIs tokV
  generalize (⟨t.text.toArray⟩ : ByteArray) = tb at *
  generalize (t.kind : Int) = kd at *
  generalize (t.pos : Int) = ps at *
  generalize ts.length = n at *
  go_enter Tryd.func15, Tryd.ntmps15
  go_wp2
  go_region
  go_wp2
  exact bodyPost_ret (v := .agg #[.int .i64 kd, .string tb, .int .i64 ps]) (by simp [results, Tryd.results15, go_sem]) rfl ⟨rfl, ((Below.refl _ _).alloc (Nat.le_refl _) _).drew⟩

def isB (t : Tok) (x : List UInt8) : Bool := (t.kind == 1 || t.kind == 4) && t.text == x
/-- The hypothesis of what calls Peek: it tells t, in whatever world beyond this one. -/
def Peeks (r : Value) (t : Tok) (w : World) : Prop := ∀ W, Below w.heap.size w W → PeekIs r t W
theorem Peeks.now {r : Value} {t : Tok} {w : World} (h : Peeks r t w) : PeekIs r t w := h w (Below.refl _ _)
theorem Peeks.below {r : Value} {t : Tok} {w w1 : World} (h : Peeks r t w) (hb : Below w.heap.size w w1) : Peeks r t w1 := fun W hW => h W (hb.trans (hW.mono hb.size))
theorem peeks_nil (w : World) : Peeks (.pointer none) ⟨0, [], 0⟩ w := fun W _ => peek_nil W
theorem peeks_at {w : World} {rb : Nat} {ts : List Tok} {k : Nat} {t : Tok} (h : RD w rb ts k) (ht : ts[k]? = some t) : Peeks (.pointer (some ⟨rb, 0, none⟩)) t w := fun _ hb => peek_at (h.below hb) ht

set_option maxHeartbeats 1000000 in
theorem is_any {r : Value} {t : Tok} {w : World} (x : ByteArray) (hp : Peeks r t w) : Calls Tryd.prog 17 #[r, .string x] w fun e w' => e = .returned (.bool (isB t x.data.toList)) ∧ Below w.heap.size w w' := by
  have hn := hp.now
  unfold PeekIs at hn
  have H := Lib.hid hn
  have HX := Lib.hid (show (t.text == x.toList) = (t.text == x.data.toList) by rw [ByteArray.toList_eq])
  unfold isB
  clear hp hn
  by_cases h1 : t.kind = 1
  · have e1 : (t.kind == 1 || t.kind == 4) = true := by simp [h1]
    rw [e1, Bool.true_and]
    have g1 : ((t.kind : Int) == 1) = true := by simp [h1]
    clear e1 h1
    go_enter Tryd.func17, Tryd.ntmps17
    go_wp2_with fail
    with_reducible refine (H.out).mono ?_
    rintro e w1 ⟨rfl, hb⟩
    have e2 : tokV t = .agg #[.int .i64 t.kind, .string ⟨t.text.toArray⟩, .int .i64 t.pos] := rfl
    rw [e2]
    clear e2
    go_wp2
    go_ret
    exact ⟨by rw [← HX.out]; rfl, hb.alloc hb.size _⟩
  by_cases h4 : t.kind = 4
  · have e1 : (t.kind == 1 || t.kind == 4) = true := by simp [h4]
    rw [e1, Bool.true_and]
    have g1 : ((t.kind : Int) == 1) = false := by simp [h4]
    have g2 : ((t.kind : Int) == 4) = true := by simp [h4]
    clear e1 h1 h4
    go_enter Tryd.func17, Tryd.ntmps17
    go_wp2_with fail
    with_reducible refine (H.out).mono ?_
    rintro e w1 ⟨rfl, hb⟩
    have e2 : tokV t = .agg #[.int .i64 t.kind, .string ⟨t.text.toArray⟩, .int .i64 t.pos] := rfl
    rw [e2]
    clear e2
    go_wp2
    go_ret
    exact ⟨by rw [← HX.out]; rfl, hb.alloc hb.size _⟩
  · have e1 : (t.kind == 1 || t.kind == 4) = false := by simp [h1, h4]
    rw [e1, Bool.false_and]
    have g1 : ((t.kind : Int) == 1) = false := by rw [beq_eq_false_iff_ne]; omega
    have g2 : ((t.kind : Int) == 4) = false := by rw [beq_eq_false_iff_ne]; omega
    clear e1 h1 h4
    go_enter Tryd.func17, Tryd.ntmps17
    go_wp2_with fail
    with_reducible refine (H.out).mono ?_
    rintro e w1 ⟨rfl, hb⟩
    have e2 : tokV t = .agg #[.int .i64 t.kind, .string ⟨t.text.toArray⟩, .int .i64 t.pos] := rfl
    rw [e2]
    clear e2
    go_wp2
    go_ret
    exact ⟨rfl, hb.alloc hb.size _⟩

theorem three_cells {w1 : World} {a : Nat} {u0 u1 u2 : Value} (c0 : w1.cell? ⟨a, 0, none⟩ = some u0) (c1 : w1.cell? ⟨a, 1, none⟩ = some u1) (c2 : w1.cell? ⟨a, 2, none⟩ = some u2) (x y z : Value) :
    (((w1.setCell ⟨a, 0, none⟩ x).setCell ⟨a, 1, none⟩ y).setCell ⟨a, 2, none⟩ z).cell? ⟨a, 0, none⟩ = some x ∧ (((w1.setCell ⟨a, 0, none⟩ x).setCell ⟨a, 1, none⟩ y).setCell ⟨a, 2, none⟩ z).cell? ⟨a, 1, none⟩ = some y ∧ (((w1.setCell ⟨a, 0, none⟩ x).setCell ⟨a, 1, none⟩ y).setCell ⟨a, 2, none⟩ z).cell? ⟨a, 2, none⟩ = some z := by
  refine ⟨?_, ?_, ?_⟩
  · rw [World.cell?_setCell_other _ _ _ _ (by simp), World.cell?_setCell_other _ _ _ _ (by simp)]
    exact World.cell?_setCell_same _ _ _ c0
  · rw [World.cell?_setCell_other _ _ _ _ (by simp)]
    refine World.cell?_setCell_same _ _ _ (u := u1) ?_
    rw [World.cell?_setCell_other _ _ _ _ (by simp)]; exact c1
  · refine World.cell?_setCell_same _ _ _ (u := u2) ?_
    rw [World.cell?_setCell_other _ _ _ _ (by simp), World.cell?_setCell_other _ _ _ _ (by simp)]; exact c2

set_option maxHeartbeats 1000000 in
theorem take_end {r : Value} {t : Tok} {w : World} (hp : Peeks r t w) (h0 : t.kind = 0) : Calls Tryd.prog 16 #[r] w fun e w' => e = .returned (tokV t) ∧ Below w.heap.size w w' := by
  have hb0 : Below w.heap.size w (w.alloc (.cells #[.int .i64 0, .string ⟨#[]⟩, .int .i64 0] 34)) := (Below.refl _ _).alloc (Nat.le_refl _) _
  have hn := hp _ hb0
  unfold PeekIs at hn
  have H := Lib.hid hn
  have g1 : ((t.kind : Int) != 0) = false := by simp [h0]
  have HB0 := Lib.hid hb0
  clear hp hb0 h0 hn
  go_enter Tryd.func16, Tryd.ntmps16
  go_wp2_with fail
  with_reducible refine (H.out).mono ?_
  rintro e w1 ⟨rfl, hb⟩
  have e2 : tokV t = .agg #[.int .i64 t.kind, .string ⟨t.text.toArray⟩, .int .i64 t.pos] := rfl
  rw [e2]
  clear e2
  have hsz : w.heap.size < w1.heap.size := by have := hb.size; simp at this; omega
  have c0 : w1.cell? ⟨w.heap.size, 0, none⟩ = some (.int .i64 0) := (hb.cell (by simp)).trans (by simp)
  have c1 : w1.cell? ⟨w.heap.size, 1, none⟩ = some (.string ⟨#[]⟩) := (hb.cell (by simp)).trans (by simp)
  have c2 : w1.cell? ⟨w.heap.size, 2, none⟩ = some (.int .i64 0) := (hb.cell (by simp)).trans (by simp)
  have f0 : w1.frozen? ⟨w.heap.size, 0, none⟩ = false := (hb.frozen (by simp)).trans (by simp)
  have f1 : w1.frozen? ⟨w.heap.size, 1, none⟩ = false := (hb.frozen (by simp)).trans (by simp)
  have f2 : w1.frozen? ⟨w.heap.size, 2, none⟩ = false := (hb.frozen (by simp)).trans (by simp)
  have HB := Lib.hid (HB0.out.trans (hb.mono (by simp)))
  clear hb
  obtain ⟨d0, d1, d2⟩ := three_cells c0 c1 c2 (.int .i64 t.kind) (.string ⟨t.text.toArray⟩) (.int .i64 t.pos)
  have D0 := Lib.hid d0
  have D1 := Lib.hid d1
  have D2 := Lib.hid d2
  clear d0 d1 d2
  go_wp2
  have d0 := D0.out
  have d1 := D1.out
  have d2 := D2.out
  refine bodyPost_ret (v := tokV t) (by simp [results, Tryd.results16, go_sem, tokV, d0, d1, d2, hsz]) rfl ⟨rfl, ?_⟩
  exact (((HB.out.setCell (Nat.le_refl _) _).setCell (Nat.le_refl _) _).setCell (Nat.le_refl _) _).alloc (by simp; omega) _

theorem rd_turn {w : World} {rb : Nat} {ts : List Tok} {k : Nat} (h : RD w rb ts k) (hk : k + 1 < ts.length) : RD (w.setCell ⟨rb, 1, none⟩ (.int .i64 ((k + 1 : Nat) : Int))) rb ts (k + 1) := by
  obtain ⟨g, cap, h1, h2, h3, h4⟩ := h
  refine ⟨g, cap, ?_, ?_, hk, h4⟩
  · simp [World.setCell, Array.getElem?_modify, h1]
  · refine ownsRow_setCell_other h2 ?_ _
    intro he
    have hg : g = rb := by simpa [Value.ownBlock] using he
    subst hg
    rcases h2.2 with ⟨hx, _⟩ | ⟨g', _, cur, hx, _, hh, _⟩
    · cases hx
    · injection hx with hx
      injection hx with hx
      injection hx with hx
      subst hx
      rw [h1] at hh
      injection hh with hh
      injection hh with _ hh
      exact absurd hh (by decide)
theorem rd_step {w w1 : World} {rb : Nat} {ts : List Tok} {k : Nat} (h : RD w rb ts k) (hB : Below w.heap.size w w1) (hk : k + 1 < ts.length) (hsz : w.heap.size < w1.heap.size) (x y z : Value) (o : Obj) :
    RD (((((w1.setCell ⟨rb, 1, none⟩ (.int .i64 ((k : Int) + 1))).setCell ⟨w.heap.size, 0, none⟩ x).setCell ⟨w.heap.size, 1, none⟩ y).setCell ⟨w.heap.size, 2, none⟩ z).alloc o) rb ts (k + 1) ∧
    w.grownBy (((((w1.setCell ⟨rb, 1, none⟩ (.int .i64 ((k : Int) + 1))).setCell ⟨w.heap.size, 0, none⟩ x).setCell ⟨w.heap.size, 1, none⟩ y).setCell ⟨w.heap.size, 2, none⟩ z).alloc o) (some rb) := by
  have hrl := h.lt
  have h1 := rd_turn (h.below hB) hk
  obtain ⟨g, cap, q1, q2, q3, q4⟩ := h1
  have hg : g < w.heap.size := by
    obtain ⟨g', cap', p1, p2, _, _⟩ := h
    have e1 := (hB.block rb hrl).trans p1
    have e2 : (w1.setCell ⟨rb, 1, none⟩ (.int .i64 ((k + 1 : Nat) : Int))).heap[rb]? = some (.cells #[.slice (some ⟨g', 0, none⟩) ts.length cap', .int .i64 ((k + 1 : Nat) : Int)] 70 (0, 0)) := by
      simp [World.setCell, Array.getElem?_modify, e1]
    rw [q1] at e2
    simp only [Option.some.injEq, Obj.cells.injEq, and_true] at e2
    have e3 : Value.slice (some ⟨g, 0, none⟩) ts.length cap = .slice (some ⟨g', 0, none⟩) ts.length cap' := by simpa using e2
    injection e3 with e3
    injection e3 with e3
    injection e3 with e3
    subst e3
    exact (p2.lt g rfl).2
  have hne : ∀ o v (W : World), W.ownsRow 0 34 3 (.slice (some ⟨g, 0, none⟩) ts.length cap) ts.length (cellsT ts) → (W.setCell ⟨w.heap.size, o, none⟩ v).ownsRow 0 34 3 (.slice (some ⟨g, 0, none⟩) ts.length cap) ts.length (cellsT ts) := by
    intro o v W hW
    refine ownsRow_setCell_other hW ?_ _
    intro he
    have : g = w.heap.size := by simpa [Value.ownBlock] using he
    omega
  have hh : ∀ i, i < w.heap.size → (((((w1.setCell ⟨rb, 1, none⟩ (.int .i64 ((k : Int) + 1))).setCell ⟨w.heap.size, 0, none⟩ x).setCell ⟨w.heap.size, 1, none⟩ y).setCell ⟨w.heap.size, 2, none⟩ z).alloc o).heap[i]? = (w1.setCell ⟨rb, 1, none⟩ (.int .i64 ((k : Int) + 1))).heap[i]? := by
    intro i hi
    rw [Below.heap_alloc _ _ _ (by simp; omega), Below.heap_setCell _ _ _ _ (by simp; omega), Below.heap_setCell _ _ _ _ (by simp; omega), Below.heap_setCell _ _ _ _ (by simp; omega)]
  refine ⟨⟨g, cap, (hh rb hrl).trans q1, (hne _ _ _ (hne _ _ _ (hne _ _ _ q2))).alloc _, q3, q4⟩, ⟨hB.os, hB.tape, hB.output, by simp; omega, fun i hi hn => ?_⟩⟩
  rw [hh i hi, Below.heap_setCell _ _ _ _ (fun e => hn (by rw [e]))]
  exact hB.block i hi

set_option maxHeartbeats 1000000 in
theorem take_on {w : World} {rb : Nat} {ts : List Tok} {k : Nat} {t : Tok} (h : RD w rb ts k) (ht : ts[k]? = some t) (h0 : t.kind ≠ 0) (hk : k + 1 < ts.length) :
    Calls Tryd.prog 16 #[.pointer (some ⟨rb, 0, none⟩)] w fun e w' => e = .returned (tokV t) ∧ RD w' rb ts (k + 1) ∧ w.grownBy w' (some rb) := by
  have hb0 : Below w.heap.size w (w.alloc (.cells #[.int .i64 0, .string ⟨#[]⟩, .int .i64 0] 34)) := (Below.refl _ _).alloc (Nat.le_refl _) _
  have hn := peek_at (h.below hb0) ht
  unfold PeekIs at hn
  have H := Lib.hid hn
  have g1 : ((t.kind : Int) != 0) = true := by rw [bne_iff_ne]; omega
  have HB0 := Lib.hid hb0
  have HR := Lib.hid h
  have hrl := h.lt
  have hkb : ts.length ≤ 65537 := by obtain ⟨_, _, _, _, _, h4⟩ := h; exact h4
  have hk1 : k < 65537 := by omega
  have HK := Lib.hid hk
  clear hb0 h0 hn h ht hkb hk
  go_enter Tryd.func16, Tryd.ntmps16
  go_wp2_with fail
  with_reducible refine (H.out).mono ?_
  rintro e w1 ⟨rfl, hb⟩
  have e2 : tokV t = .agg #[.int .i64 t.kind, .string ⟨t.text.toArray⟩, .int .i64 t.pos] := rfl
  rw [e2]
  clear e2
  have hsz : w.heap.size < w1.heap.size := by have := hb.size; simp at this; omega
  have c0 : w1.cell? ⟨w.heap.size, 0, none⟩ = some (.int .i64 0) := (hb.cell (by simp)).trans (by simp)
  have c1 : w1.cell? ⟨w.heap.size, 1, none⟩ = some (.string ⟨#[]⟩) := (hb.cell (by simp)).trans (by simp)
  have c2 : w1.cell? ⟨w.heap.size, 2, none⟩ = some (.int .i64 0) := (hb.cell (by simp)).trans (by simp)
  have f0 : w1.frozen? ⟨w.heap.size, 0, none⟩ = false := (hb.frozen (by simp)).trans (by simp)
  have f1 : w1.frozen? ⟨w.heap.size, 1, none⟩ = false := (hb.frozen (by simp)).trans (by simp)
  have f2 : w1.frozen? ⟨w.heap.size, 2, none⟩ = false := (hb.frozen (by simp)).trans (by simp)
  have hB := HB0.out.trans (hb.mono (by simp))
  have hR1 := HR.out.below hB
  have HR1 := Lib.hid hR1
  obtain ⟨g, cap, q1, _, _, _⟩ := hR1
  have r1 := rd_cell q1 1
  have fr1 := rd_frozen q1 1
  simp only [List.getElem?_toArray, List.getElem?_cons_zero, List.getElem?_cons_succ] at r1
  have hne : rb ≠ w.heap.size := by omega
  have hne' : w.heap.size ≠ rb := by omega
  have hrl1 : rb < w1.heap.size := by omega
  have HB := Lib.hid hB
  obtain ⟨d0, d1, d2⟩ := three_cells (w1 := w1.setCell ⟨rb, 1, none⟩ (.int .i64 ((k : Int) + 1))) ((World.cell?_setCell_other _ _ _ _ (by simp <;> omega)).trans c0) ((World.cell?_setCell_other _ _ _ _ (by simp <;> omega)).trans c1) ((World.cell?_setCell_other _ _ _ _ (by simp <;> omega)).trans c2) (.int .i64 t.kind) (.string ⟨t.text.toArray⟩) (.int .i64 t.pos)
  have D0 := Lib.hid d0
  have D1 := Lib.hid d1
  have D2 := Lib.hid d2
  clear hb hB q1 d0 d1 d2
  go_wp2
  have d0 := D0.out
  have d1 := D1.out
  have d2 := D2.out
  exact bodyPost_ret (v := tokV t) (by simp [results, Tryd.results16, go_sem, tokV, d0, d1, d2, hsz]) rfl ⟨rfl, rd_step HR.out HB.out HK.out hsz _ _ _ _⟩
end Go.Proofs.YtfemddchaihokaaDoor
