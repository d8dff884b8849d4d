/-
  The law's own example; what no reader answers. A reader: what it is at. A reader: what it skips, wants and takes. ScanNames, walked.
-/
import Derived.Test.YtmgjpjjglghbaaaGreatDoorLB
import Derived.Test.YtmgjpjjglghbaaaGreatDoorA1
import Derived.RegionTactic
import Derived.BigRegion
namespace Go.Proofs.YtmgjpjjglghbaaaGreatDoor
section
open Go.RowKit

/-- What a law leaves: true, and all that was there as it was. -/
def LawF (w : World) (e : Ending) (w' : World) : Prop := e = .returned (.bool true) ∧ Below w.heap.size w w'

theorem cellsT_at (ts : List Tok) (i : Nat) (t : Tok) (h : ts[i]? = some t) (j : Nat) (hj : j < 3) : (cellsT ts)[i * 3 + j]? = (tokC t)[j]? := by
  induction ts generalizing i with
  | nil => simp at h
  | cons u r ih =>
    have e : cellsT (u :: r) = tokC u ++ cellsT r := by simp [cellsT]
    rw [e]
    cases i with
    | zero =>
      simp only [List.getElem?_cons_zero, Option.some.injEq] at h
      subst h
      rw [Nat.zero_mul, Nat.zero_add, List.getElem?_append_left (by simpa [tokC] using hj)]
    | succ i =>
      rw [List.getElem?_append_right (by simp [tokC]; omega)]
      have := ih i (by simpa using h)
      rw [← this]
      congr 1
      simp [tokC]
      omega
/-- A slice that reads as tokens. -/
theorem tok_cells {w : World} {base g cap : Nat} {ts : List Tok} {e : TypeId} (h : w.ownsRow base e 3 (.slice (some ⟨g, 0, none⟩) ts.length cap) ts.length (cellsT ts)) {i : Nat} {t : Tok} (ht : ts[i]? = some t) :
    w.cell? ⟨g, i * 3, none⟩ = some (.int .i64 t.kind) ∧ w.cell? ⟨g, i * 3 + 1, none⟩ = some (.string ⟨t.text.toArray⟩) ∧ w.cell? ⟨g, i * 3 + 2, none⟩ = some (.int .i64 t.pos) := by
  have hi : i < ts.length := (List.getElem?_eq_some_iff.1 ht).1
  have h0 := h.cellAt (i * 3) (by omega)
  have h1 := h.cellAt (i * 3 + 1) (by omega)
  have h2 := h.cellAt (i * 3 + 2) (by omega)
  have c0 := cellsT_at ts i t ht 0 (by omega)
  rw [Nat.add_zero] at c0
  rw [c0] at h0
  rw [cellsT_at ts i t ht 1 (by omega)] at h1
  rw [cellsT_at ts i t ht 2 (by omega)] at h2
  exact ⟨h0, h1, h2⟩

theorem owns_form {w : World} {base size n : Nat} {e : TypeId} {v : Value} {xs : List Value} (h : w.ownsRow base e size v n xs) (hn : 0 < n) : ∃ g cap, v = .slice (some ⟨g, 0, none⟩) n cap := by
  rcases h.2 with ⟨_, h0⟩ | ⟨g, cap, _, rfl, _⟩
  · omega
  · exact ⟨g, cap, rfl⟩
theorem tokens_ok {s : ByteArray} {ts : List Tok} (w : World) (hG : GlobS w) (hs : s.size ≤ 65536) (h : toks s.data.toList = .ok ts) :
    Calls Tryz.prog 103 #[.string s] w fun e w' => ∃ g cap, e = .returned (.tuple #[.slice (some ⟨g, 0, none⟩) ts.length cap, .nilIface]) ∧ 0 < ts.length ∧ ts.length ≤ 65537 ∧ w'.ownsRow w.heap.size 152 3 (.slice (some ⟨g, 0, none⟩) ts.length cap) ts.length (cellsT ts) ∧ Below w.heap.size w w' := by
  refine (tokens_any s w hG hs).mono ?_
  rintro e w' (⟨ts', v, h1, rfl, h2, h3, h4, h5⟩ | ⟨x, p, b, h1, _⟩)
  · rw [h] at h1
    obtain rfl := Res.ok.inj h1
    obtain ⟨g, cap, rfl⟩ := owns_form h4 h2
    exact ⟨g, cap, rfl, h2, h3, h4, h5⟩
  · rw [h] at h1; cases h1
theorem tokens_er {s : ByteArray} {x p : Nat} (w : World) (hG : GlobS w) (hs : s.size ≤ 65536) (h : toks s.data.toList = .error (x, p)) :
    Calls Tryz.prog 103 #[.string s] w fun e w' => ∃ b, e = .returned (.tuple #[.slice none 0 0, .iface 190 (.pointer (some ⟨b, 0, none⟩))]) ∧ w.heap.size ≤ b ∧ x ≠ 0 ∧ AtE w' b p x ∧ Below w.heap.size w w' := by
  refine (tokens_any s w hG hs).mono ?_
  rintro e w' (⟨ts', v, h1, _⟩ | ⟨x', p', b, h1, rfl, h2, h3, h4, h5, h7, h6⟩)
  · rw [h] at h1; cases h1
  · rw [h] at h1
    injection h1 with h1
    injection h1 with e1 e2
    subst e1 e2
    exact ⟨b, rfl, h2, h3, ⟨h4, h5, h7⟩, h6⟩
end
section
open Go.RowKit

def tokV (t : Tok) : Value := .agg #[.int .i64 t.kind, .string ⟨t.text.toArray⟩, .int .i64 t.pos]
/-- What Peek tells. -/
def PeekIs (r : Value) (t : Tok) (w : World) : Prop := Calls Tryz.prog 104 #[r] w fun e w' => e = .returned (tokV t) ∧ Below w.heap.size w w'

theorem peek_nil (w : World) : PeekIs (.pointer none) ⟨0, [], 0⟩ w := by
  unfold PeekIs
  go_enter Tryz.func104, Tryz.ntmps104
  go_wp2
  exact bodyPost_ret (v := tokV ⟨0, [], 0⟩) (by simp [results, Tryz.results104, go_sem, tokV]) rfl ⟨rfl, (Below.refl _ _).alloc (Nat.le_refl _) _⟩

/-- A reader in memory. -/
def RD (w : World) (rb : Nat) (ts : List Tok) (k : Nat) : Prop :=
  ∃ g cap, w.heap[rb]? = some (.cells #[.slice (some ⟨g, 0, none⟩) ts.length cap, .int .i64 (k : Int)] 150 (0, 0)) ∧ w.ownsRow 0 152 3 (.slice (some ⟨g, 0, none⟩) ts.length cap) ts.length (cellsT ts) ∧ k < ts.length ∧ ts.length ≤ 65537
theorem RD.lt {w : World} {rb : Nat} {ts : List Tok} {k : Nat} (h : RD w rb ts k) : rb < w.heap.size := by
  obtain ⟨g, cap, h1, _⟩ := h
  rcases Nat.lt_or_ge rb w.heap.size with hlt | hge
  · exact hlt
  · rw [Array.getElem?_eq_none hge] at h1; cases h1
theorem RD.below {w w' : World} {rb : Nat} {ts : List Tok} {k : Nat} (h : RD w rb ts k) (hb : Below w.heap.size w w') : RD w' rb ts k := by
  have hl := h.lt
  obtain ⟨g, cap, h1, h2, h3, h4⟩ := h
  exact ⟨g, cap, (hb.block rb hl).trans h1, owns_below h2 hb, h3, h4⟩
theorem rd_cell {w : World} {b : Nat} {cs : Array Value} {t : TypeId} (h : w.heap[b]? = some (.cells cs t (0, 0))) (i : Nat) : w.cell? ⟨b, i, none⟩ = cs[i]? := cell_of_row w b i cs t (0, 0) h
theorem rd_frozen {w : World} {b : Nat} {cs : Array Value} {t : TypeId} (h : w.heap[b]? = some (.cells cs t (0, 0))) (i : Nat) : w.frozen? ⟨b, i, none⟩ = false := by simp [World.frozen?, h]

set_option maxHeartbeats 1000000 in
theorem peek_at {w : World} {rb : Nat} {ts : List Tok} {k : Nat} {t : Tok} (h : RD w rb ts k) (ht : ts[k]? = some t) : PeekIs (.pointer (some ⟨rb, 0, none⟩)) t w := by
  have hrl := h.lt
  obtain ⟨g, cap, h1, h2, h3, h4⟩ := h
  have hgl : g < w.heap.size := (h2.lt g rfl).2
  obtain ⟨c0, c1, c2⟩ := tok_cells h2 ht
  have r0 := rd_cell h1 0
  have r1 := rd_cell h1 1
  simp only [List.getElem?_toArray, List.getElem?_cons_zero, List.getElem?_cons_succ] at r0 r1
  have hz : ((ts.length : Int) == 0) = false := by rw [beq_eq_false_iff_ne]; omega
  clear h1 h2 ht
  unfold PeekIs tokV
  generalize (⟨t.text.toArray⟩ : ByteArray) = tb at *
  generalize (t.kind : Int) = kd at *
  generalize (t.pos : Int) = ps at *
  generalize ts.length = n at *
  go_enter Tryz.func104, Tryz.ntmps104
  go_wp2
  go_region
  go_wp2
  exact bodyPost_ret (v := .agg #[.int .i64 kd, .string tb, .int .i64 ps]) (by simp [results, Tryz.results104, go_sem]) rfl ⟨rfl, ((Below.refl _ _).alloc (Nat.le_refl _) _).drew⟩

def isB (t : Tok) (x : List UInt8) : Bool := (t.kind == 1 || t.kind == 4) && t.text == x
/-- The hypothesis of what calls Peek: it tells t, in whatever world beyond this one. -/
def Peeks (r : Value) (t : Tok) (w : World) : Prop := ∀ W, Below w.heap.size w W → PeekIs r t W
theorem Peeks.now {r : Value} {t : Tok} {w : World} (h : Peeks r t w) : PeekIs r t w := h w (Below.refl _ _)
theorem Peeks.below {r : Value} {t : Tok} {w w1 : World} (h : Peeks r t w) (hb : Below w.heap.size w w1) : Peeks r t w1 := fun W hW => h W (hb.trans (hW.mono hb.size))
theorem peeks_nil (w : World) : Peeks (.pointer none) ⟨0, [], 0⟩ w := fun W _ => peek_nil W
theorem peeks_at {w : World} {rb : Nat} {ts : List Tok} {k : Nat} {t : Tok} (h : RD w rb ts k) (ht : ts[k]? = some t) : Peeks (.pointer (some ⟨rb, 0, none⟩)) t w := fun _ hb => peek_at (h.below hb) ht

set_option maxHeartbeats 1000000 in
theorem is_any {r : Value} {t : Tok} {w : World} (x : ByteArray) (hp : Peeks r t w) : Calls Tryz.prog 164 #[r, .string x] w fun e w' => e = .returned (.bool (isB t x.data.toList)) ∧ Below w.heap.size w w' := by
  have hn := hp.now
  unfold PeekIs at hn
  have H := Lib.hid hn
  have HX := Lib.hid (show (t.text == x.toList) = (t.text == x.data.toList) by rw [ByteArray.toList_eq])
  unfold isB
  clear hp hn
  by_cases h1 : t.kind = 1
  · have e1 : (t.kind == 1 || t.kind == 4) = true := by simp [h1]
    rw [e1, Bool.true_and]
    have g1 : ((t.kind : Int) == 1) = true := by simp [h1]
    clear e1 h1
    go_enter Tryz.func164, Tryz.ntmps164
    go_wp2_with fail
    with_reducible refine (H.out).mono ?_
    rintro e w1 ⟨rfl, hb⟩
    have e2 : tokV t = .agg #[.int .i64 t.kind, .string ⟨t.text.toArray⟩, .int .i64 t.pos] := rfl
    rw [e2]
    clear e2
    go_wp2
    go_ret
    exact ⟨by rw [← HX.out]; rfl, hb.alloc hb.size _⟩
  by_cases h4 : t.kind = 4
  · have e1 : (t.kind == 1 || t.kind == 4) = true := by simp [h4]
    rw [e1, Bool.true_and]
    have g1 : ((t.kind : Int) == 1) = false := by simp [h4]
    have g2 : ((t.kind : Int) == 4) = true := by simp [h4]
    clear e1 h1 h4
    go_enter Tryz.func164, Tryz.ntmps164
    go_wp2_with fail
    with_reducible refine (H.out).mono ?_
    rintro e w1 ⟨rfl, hb⟩
    have e2 : tokV t = .agg #[.int .i64 t.kind, .string ⟨t.text.toArray⟩, .int .i64 t.pos] := rfl
    rw [e2]
    clear e2
    go_wp2
    go_ret
    exact ⟨by rw [← HX.out]; rfl, hb.alloc hb.size _⟩
  · have e1 : (t.kind == 1 || t.kind == 4) = false := by simp [h1, h4]
    rw [e1, Bool.false_and]
    have g1 : ((t.kind : Int) == 1) = false := by rw [beq_eq_false_iff_ne]; omega
    have g2 : ((t.kind : Int) == 4) = false := by rw [beq_eq_false_iff_ne]; omega
    clear e1 h1 h4
    go_enter Tryz.func164, Tryz.ntmps164
    go_wp2_with fail
    with_reducible refine (H.out).mono ?_
    rintro e w1 ⟨rfl, hb⟩
    have e2 : tokV t = .agg #[.int .i64 t.kind, .string ⟨t.text.toArray⟩, .int .i64 t.pos] := rfl
    rw [e2]
    clear e2
    go_wp2
    go_ret
    exact ⟨rfl, hb.alloc hb.size _⟩

theorem three_cells {w1 : World} {a : Nat} {u0 u1 u2 : Value} (c0 : w1.cell? ⟨a, 0, none⟩ = some u0) (c1 : w1.cell? ⟨a, 1, none⟩ = some u1) (c2 : w1.cell? ⟨a, 2, none⟩ = some u2) (x y z : Value) :
    (((w1.setCell ⟨a, 0, none⟩ x).setCell ⟨a, 1, none⟩ y).setCell ⟨a, 2, none⟩ z).cell? ⟨a, 0, none⟩ = some x ∧ (((w1.setCell ⟨a, 0, none⟩ x).setCell ⟨a, 1, none⟩ y).setCell ⟨a, 2, none⟩ z).cell? ⟨a, 1, none⟩ = some y ∧ (((w1.setCell ⟨a, 0, none⟩ x).setCell ⟨a, 1, none⟩ y).setCell ⟨a, 2, none⟩ z).cell? ⟨a, 2, none⟩ = some z := by
  refine ⟨?_, ?_, ?_⟩
  · rw [World.cell?_setCell_other _ _ _ _ (by simp), World.cell?_setCell_other _ _ _ _ (by simp)]
    exact World.cell?_setCell_same _ _ _ c0
  · rw [World.cell?_setCell_other _ _ _ _ (by simp)]
    refine World.cell?_setCell_same _ _ _ (u := u1) ?_
    rw [World.cell?_setCell_other _ _ _ _ (by simp)]; exact c1
  · refine World.cell?_setCell_same _ _ _ (u := u2) ?_
    rw [World.cell?_setCell_other _ _ _ _ (by simp), World.cell?_setCell_other _ _ _ _ (by simp)]; exact c2

set_option maxHeartbeats 1000000 in
theorem take_end {r : Value} {t : Tok} {w : World} (hp : Peeks r t w) (h0 : t.kind = 0) : Calls Tryz.prog 165 #[r] w fun e w' => e = .returned (tokV t) ∧ Below w.heap.size w w' := by
  have hb0 : Below w.heap.size w (w.alloc (.cells #[.int .i64 0, .string ⟨#[]⟩, .int .i64 0] 152)) := (Below.refl _ _).alloc (Nat.le_refl _) _
  have hn := hp _ hb0
  unfold PeekIs at hn
  have H := Lib.hid hn
  have g1 : ((t.kind : Int) != 0) = false := by simp [h0]
  have HB0 := Lib.hid hb0
  clear hp hb0 h0 hn
  go_enter Tryz.func165, Tryz.ntmps165
  go_wp2_with fail
  with_reducible refine (H.out).mono ?_
  rintro e w1 ⟨rfl, hb⟩
  have e2 : tokV t = .agg #[.int .i64 t.kind, .string ⟨t.text.toArray⟩, .int .i64 t.pos] := rfl
  rw [e2]
  clear e2
  have hsz : w.heap.size < w1.heap.size := by have := hb.size; simp at this; omega
  have c0 : w1.cell? ⟨w.heap.size, 0, none⟩ = some (.int .i64 0) := (hb.cell (by simp)).trans (by simp)
  have c1 : w1.cell? ⟨w.heap.size, 1, none⟩ = some (.string ⟨#[]⟩) := (hb.cell (by simp)).trans (by simp)
  have c2 : w1.cell? ⟨w.heap.size, 2, none⟩ = some (.int .i64 0) := (hb.cell (by simp)).trans (by simp)
  have f0 : w1.frozen? ⟨w.heap.size, 0, none⟩ = false := (hb.frozen (by simp)).trans (by simp)
  have f1 : w1.frozen? ⟨w.heap.size, 1, none⟩ = false := (hb.frozen (by simp)).trans (by simp)
  have f2 : w1.frozen? ⟨w.heap.size, 2, none⟩ = false := (hb.frozen (by simp)).trans (by simp)
  have HB := Lib.hid (HB0.out.trans (hb.mono (by simp)))
  clear hb
  obtain ⟨d0, d1, d2⟩ := three_cells c0 c1 c2 (.int .i64 t.kind) (.string ⟨t.text.toArray⟩) (.int .i64 t.pos)
  have D0 := Lib.hid d0
  have D1 := Lib.hid d1
  have D2 := Lib.hid d2
  clear d0 d1 d2
  go_wp2
  have d0 := D0.out
  have d1 := D1.out
  have d2 := D2.out
  refine bodyPost_ret (v := tokV t) (by simp [results, Tryz.results165, go_sem, tokV, d0, d1, d2, hsz]) rfl ⟨rfl, ?_⟩
  exact (((HB.out.setCell (Nat.le_refl _) _).setCell (Nat.le_refl _) _).setCell (Nat.le_refl _) _).alloc (by simp; omega) _

theorem rd_turn {w : World} {rb : Nat} {ts : List Tok} {k : Nat} (h : RD w rb ts k) (hk : k + 1 < ts.length) : RD (w.setCell ⟨rb, 1, none⟩ (.int .i64 ((k + 1 : Nat) : Int))) rb ts (k + 1) := by
  obtain ⟨g, cap, h1, h2, h3, h4⟩ := h
  refine ⟨g, cap, ?_, ?_, hk, h4⟩
  · simp [World.setCell, Array.getElem?_modify, h1]
  · refine ownsRow_setCell_other h2 ?_ _
    intro he
    have hg : g = rb := by simpa [Value.ownBlock] using he
    subst hg
    rcases h2.2 with ⟨hx, _⟩ | ⟨g', _, cur, hx, _, hh, _⟩
    · cases hx
    · injection hx with hx
      injection hx with hx
      injection hx with hx
      subst hx
      rw [h1] at hh
      injection hh with hh
      injection hh with _ hh
      exact absurd hh (by decide)
theorem rd_step {w w1 : World} {rb : Nat} {ts : List Tok} {k : Nat} (h : RD w rb ts k) (hB : Below w.heap.size w w1) (hk : k + 1 < ts.length) (hsz : w.heap.size < w1.heap.size) (x y z : Value) (o : Obj) :
    RD (((((w1.setCell ⟨rb, 1, none⟩ (.int .i64 ((k : Int) + 1))).setCell ⟨w.heap.size, 0, none⟩ x).setCell ⟨w.heap.size, 1, none⟩ y).setCell ⟨w.heap.size, 2, none⟩ z).alloc o) rb ts (k + 1) ∧
    w.grownBy (((((w1.setCell ⟨rb, 1, none⟩ (.int .i64 ((k : Int) + 1))).setCell ⟨w.heap.size, 0, none⟩ x).setCell ⟨w.heap.size, 1, none⟩ y).setCell ⟨w.heap.size, 2, none⟩ z).alloc o) (some rb) := by
  have hrl := h.lt
  have h1 := rd_turn (h.below hB) hk
  obtain ⟨g, cap, q1, q2, q3, q4⟩ := h1
  have hg : g < w.heap.size := by
    obtain ⟨g', cap', p1, p2, _, _⟩ := h
    have e1 := (hB.block rb hrl).trans p1
    have e2 : (w1.setCell ⟨rb, 1, none⟩ (.int .i64 ((k + 1 : Nat) : Int))).heap[rb]? = some (.cells #[.slice (some ⟨g', 0, none⟩) ts.length cap', .int .i64 ((k + 1 : Nat) : Int)] 150 (0, 0)) := by
      simp [World.setCell, Array.getElem?_modify, e1]
    rw [q1] at e2
    simp only [Option.some.injEq, Obj.cells.injEq, and_true] at e2
    have e3 : Value.slice (some ⟨g, 0, none⟩) ts.length cap = .slice (some ⟨g', 0, none⟩) ts.length cap' := by simpa using e2
    injection e3 with e3
    injection e3 with e3
    injection e3 with e3
    subst e3
    exact (p2.lt g rfl).2
  have hne : ∀ o v (W : World), W.ownsRow 0 152 3 (.slice (some ⟨g, 0, none⟩) ts.length cap) ts.length (cellsT ts) → (W.setCell ⟨w.heap.size, o, none⟩ v).ownsRow 0 152 3 (.slice (some ⟨g, 0, none⟩) ts.length cap) ts.length (cellsT ts) := by
    intro o v W hW
    refine ownsRow_setCell_other hW ?_ _
    intro he
    have : g = w.heap.size := by simpa [Value.ownBlock] using he
    omega
  have hh : ∀ i, i < w.heap.size → (((((w1.setCell ⟨rb, 1, none⟩ (.int .i64 ((k : Int) + 1))).setCell ⟨w.heap.size, 0, none⟩ x).setCell ⟨w.heap.size, 1, none⟩ y).setCell ⟨w.heap.size, 2, none⟩ z).alloc o).heap[i]? = (w1.setCell ⟨rb, 1, none⟩ (.int .i64 ((k : Int) + 1))).heap[i]? := by
    intro i hi
    rw [Below.heap_alloc _ _ _ (by simp; omega), Below.heap_setCell _ _ _ _ (by simp; omega), Below.heap_setCell _ _ _ _ (by simp; omega), Below.heap_setCell _ _ _ _ (by simp; omega)]
  refine ⟨⟨g, cap, (hh rb hrl).trans q1, (hne _ _ _ (hne _ _ _ (hne _ _ _ q2))).alloc _, q3, q4⟩, ⟨hB.os, hB.tape, hB.output, by simp; omega, fun i hi hn => ?_⟩⟩
  rw [hh i hi, Below.heap_setCell _ _ _ _ (fun e => hn (by rw [e]))]
  exact hB.block i hi

set_option maxHeartbeats 1000000 in
theorem take_on {w : World} {rb : Nat} {ts : List Tok} {k : Nat} {t : Tok} (h : RD w rb ts k) (ht : ts[k]? = some t) (h0 : t.kind ≠ 0) (hk : k + 1 < ts.length) :
    Calls Tryz.prog 165 #[.pointer (some ⟨rb, 0, none⟩)] w fun e w' => e = .returned (tokV t) ∧ RD w' rb ts (k + 1) ∧ w.grownBy w' (some rb) := by
  have hb0 : Below w.heap.size w (w.alloc (.cells #[.int .i64 0, .string ⟨#[]⟩, .int .i64 0] 152)) := (Below.refl _ _).alloc (Nat.le_refl _) _
  have hn := peek_at (h.below hb0) ht
  unfold PeekIs at hn
  have H := Lib.hid hn
  have g1 : ((t.kind : Int) != 0) = true := by rw [bne_iff_ne]; omega
  have HB0 := Lib.hid hb0
  have HR := Lib.hid h
  have hrl := h.lt
  have hkb : ts.length ≤ 65537 := by obtain ⟨_, _, _, _, _, h4⟩ := h; exact h4
  have hk1 : k < 65537 := by omega
  have HK := Lib.hid hk
  clear hb0 h0 hn h ht hkb hk
  go_enter Tryz.func165, Tryz.ntmps165
  go_wp2_with fail
  with_reducible refine (H.out).mono ?_
  rintro e w1 ⟨rfl, hb⟩
  have e2 : tokV t = .agg #[.int .i64 t.kind, .string ⟨t.text.toArray⟩, .int .i64 t.pos] := rfl
  rw [e2]
  clear e2
  have hsz : w.heap.size < w1.heap.size := by have := hb.size; simp at this; omega
  have c0 : w1.cell? ⟨w.heap.size, 0, none⟩ = some (.int .i64 0) := (hb.cell (by simp)).trans (by simp)
  have c1 : w1.cell? ⟨w.heap.size, 1, none⟩ = some (.string ⟨#[]⟩) := (hb.cell (by simp)).trans (by simp)
  have c2 : w1.cell? ⟨w.heap.size, 2, none⟩ = some (.int .i64 0) := (hb.cell (by simp)).trans (by simp)
  have f0 : w1.frozen? ⟨w.heap.size, 0, none⟩ = false := (hb.frozen (by simp)).trans (by simp)
  have f1 : w1.frozen? ⟨w.heap.size, 1, none⟩ = false := (hb.frozen (by simp)).trans (by simp)
  have f2 : w1.frozen? ⟨w.heap.size, 2, none⟩ = false := (hb.frozen (by simp)).trans (by simp)
  have hB := HB0.out.trans (hb.mono (by simp))
  have hR1 := HR.out.below hB
  have HR1 := Lib.hid hR1
  obtain ⟨g, cap, q1, _, _, _⟩ := hR1
  have r1 := rd_cell q1 1
  have fr1 := rd_frozen q1 1
  simp only [List.getElem?_toArray, List.getElem?_cons_zero, List.getElem?_cons_succ] at r1
  have hne : rb ≠ w.heap.size := by omega
  have hne' : w.heap.size ≠ rb := by omega
  have hrl1 : rb < w1.heap.size := by omega
  have HB := Lib.hid hB
  obtain ⟨d0, d1, d2⟩ := three_cells (w1 := w1.setCell ⟨rb, 1, none⟩ (.int .i64 ((k : Int) + 1))) ((World.cell?_setCell_other _ _ _ _ (by simp <;> omega)).trans c0) ((World.cell?_setCell_other _ _ _ _ (by simp <;> omega)).trans c1) ((World.cell?_setCell_other _ _ _ _ (by simp <;> omega)).trans c2) (.int .i64 t.kind) (.string ⟨t.text.toArray⟩) (.int .i64 t.pos)
  have D0 := Lib.hid d0
  have D1 := Lib.hid d1
  have D2 := Lib.hid d2
  clear hb hB q1 d0 d1 d2
  go_wp2
  have d0 := D0.out
  have d1 := D1.out
  have d2 := D2.out
  exact bodyPost_ret (v := tokV t) (by simp [results, Tryz.results165, go_sem, tokV, d0, d1, d2, hsz]) rfl ⟨rfl, rd_step HR.out HB.out HK.out hsz _ _ _ _⟩
end
section
open Go.RowKit

theorem field0 (a b c : Value) (w : World) : (Instr.field 152 (.agg #[a, b, c]) 0).run Tryz.prog w = .ok a w := by kernel_rfl
theorem field1 (a b c : Value) (w : World) : (Instr.field 152 (.agg #[a, b, c]) 1).run Tryz.prog w = .ok b w := by kernel_rfl
theorem field2 (a b c : Value) (w : World) : (Instr.field 152 (.agg #[a, b, c]) 2).run Tryz.prog w = .ok c w := by kernel_rfl
theorem glob_grown {w w1 : World} {rb : Nat} {ts : List Tok} {k : Nat} (hG : GlobS w) (hR : RD w rb ts k) (hg : w.grownBy w1 (some rb)) : GlobS w1 := by
  obtain ⟨g, cap, h1, _⟩ := hR
  have r0 := rd_cell h1 0
  simp only [List.getElem?_toArray, List.getElem?_cons_zero] at r0
  have hcell : ∀ (b : Nat) (te : TypeId) (pe : Value), w.cell? ⟨b, 0, none⟩ = some (.iface te pe) → w1.cell? ⟨b, 0, none⟩ = some (.iface te pe) := by
    intro b te pe hb
    have hne : b ≠ rb := by
      rintro rfl
      rw [hb] at r0
      cases r0
    exact (World.cell?_of_block (hg.block b (World.block_lt_of_cell? w _ hb) (fun e => hne (by injection e)))).trans hb
  refine ⟨⟨hcell 0 _ _ hG.glob.err⟩, ?_⟩
  obtain ⟨te, pe, he⟩ := hG.rng
  exact ⟨te, pe, hcell 2 te pe he⟩
theorem below_grown {w0 w w1 : World} {rb : Nat} (hb : Below w0.heap.size w0 w) (hg : w.grownBy w1 (some rb)) (hr : w0.heap.size ≤ rb) : Below w0.heap.size w0 w1 :=
  hb.grown hg hb.size (fun k hk => by injection hk with hk; omega)

theorem skip_no {r : Value} {t : Tok} {w : World} (x : ByteArray) (hp : Peeks r t w) (hi : isB t x.data.toList = false) : Calls Tryz.prog 137 #[r, .string x] w fun e w' => e = .returned (.bool false) ∧ Below w.heap.size w w' := by
  have h := is_any x hp
  rw [hi] at h
  have H := Lib.hid h
  clear h hi hp
  go_enter Tryz.func137, Tryz.ntmps137
  go_wp2_with fail
  with_reducible refine (H.out).mono ?_
  rintro e w1 ⟨rfl, hb⟩
  go_wp2
  go_ret
  exact ⟨rfl, hb⟩
theorem skip_yes {w : World} {rb : Nat} {ts : List Tok} {k : Nat} {t : Tok} (x : ByteArray) (h : RD w rb ts k) (ht : ts[k]? = some t) (hi : isB t x.data.toList = true) (hk : k + 1 < ts.length) :
    Calls Tryz.prog 137 #[.pointer (some ⟨rb, 0, none⟩), .string x] w fun e w' => e = .returned (.bool true) ∧ RD w' rb ts (k + 1) ∧ w.grownBy w' (some rb) := by
  have h0 : t.kind ≠ 0 := by
    intro h0
    rw [isB, h0] at hi
    cases hi
  have h1 := is_any x (peeks_at h ht)
  rw [hi] at h1
  have H := Lib.hid h1
  have H2 := Lib.hid (fun (W : World) (hb : Below w.heap.size w W) => take_on (h.below hb) ht h0 hk)
  clear h1 hi h ht h0 hk
  go_enter Tryz.func137, Tryz.ntmps137
  go_wp2_with fail
  with_reducible refine (H.out).mono ?_
  rintro e w1 ⟨rfl, hb⟩
  have H3 := Lib.hid (H2.out w1 hb)
  have HB := Lib.hid hb
  clear hb
  go_wp2_with fail
  with_reducible refine (H3.out).mono ?_
  rintro e w2 ⟨rfl, hR, hg⟩
  go_wp2
  go_ret
  exact ⟨rfl, hR, (grown_of_below HB.out (some rb)).trans hg⟩

/-- A refusal: an error at a place. -/
def Bad (p : Int) (mk : Value → Value) (w : World) (e : Ending) (w' : World) : Prop := ∃ b, e = .returned (mk (.iface 190 (.pointer (some ⟨b, 0, none⟩)))) ∧ w.heap.size ≤ b ∧ AtE w' b p 20 ∧ Below w.heap.size w w'
end
section
open Go.RowKit

theorem app_list (a b : ByteArray) : (a ++ b).data.toList = a.data.toList ++ b.data.toList := by simp
theorem to_bytes (x : ByteArray) (l : List UInt8) (h : x.data.toList = l) : x = ⟨l.toArray⟩ := by rw [← h]
theorem owns_zero {w : World} {base size n : Nat} {e : TypeId} {v : Value} {xs : List Value} (h : w.ownsRow base e size v n xs) : w.ownsRow 0 e size v n xs := by
  refine ⟨h.1, ?_⟩
  rcases h.2 with h1 | ⟨g, cap, cur, h1, _, h3⟩
  · exact .inl h1
  · exact .inr ⟨g, cap, cur, h1, Nat.zero_le _, h3⟩
theorem new_ok {s : ByteArray} {ts : List Tok} (w : World) (hG : GlobS w) (hs : s.size ≤ 65536) (h : toks s.data.toList = .ok ts) :
    Calls Tryz.prog 65 #[.string s] w fun e w' => ∃ rb, e = .returned (.tuple #[.pointer (some ⟨rb, 0, none⟩), .nilIface]) ∧ w.heap.size ≤ rb ∧ RD w' rb ts 0 ∧ Below w.heap.size w w' := by
  have H := Lib.hid (tokens_ok w hG hs h)
  clear hG h
  go_enter Tryz.func65, Tryz.ntmps65
  go_wp2_with fail
  with_reducible refine (H.out).mono ?_
  rintro e w1 ⟨g, cap, rfl, h0, h1, ho, hb⟩
  have HO := Lib.hid ho
  have HB := Lib.hid hb
  obtain ⟨n, hn⟩ : ∃ n, n = ts.length := ⟨_, rfl⟩
  have HN := Lib.hid hn
  rw [← hn]
  clear ho hb hn
  go_wp2
  go_ret2
  refine ⟨w1.heap.size, rfl, HB.out.size, ⟨g, cap, ?_, (owns_zero HO.out).alloc _, h0, h1⟩, HB.out.alloc HB.out.size _⟩
  rw [← HN.out]
  exact heap_alloc_new w1 _
end
end Go.Proofs.YtmgjpjjglghbaaaGreatDoor
