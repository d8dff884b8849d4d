/-
  The document's reader of expressions in memory.
-/
import Derived.Test.YtddeplbgihcdkaaGreatDoorXC
import Derived.Test.YtddeplbgihcdkaaGreatDoorG1
import Derived.Test.YtddeplbgihcdkaaGreatDoorD3
import Derived.RegionTactic
namespace Go.Proofs.YtddeplbgihcdkaaGreatDoor
open Go.RowKit

/-- At tokens that are left; the first error's number (0: none), and its place. -/
structure DR (w : World) (pb D : Nat) (us : List Tok) (c : Nat) (q : Int) : Prop where
  blk : ∃ (ts : List Tok) (k g cap : Nat), us = ts.drop k ∧ k < ts.length ∧ ts.length ≤ 65537 ∧ w.heap[pb]? = some (.cells #[.slice (some ⟨g, 0, none⟩) ts.length cap, .int .i64 (k : Int), .int .i64 (D : Int), .int .i64 (c : Int), .int .i64 q] 109 (0, 0)) ∧ w.ownsRow 0 110 3 (.slice (some ⟨g, 0, none⟩) ts.length cap) ts.length (cellsT ts)
  fine : Fine us
  dep : D ≤ 64
section
variable {w w' : World} {pb D : Nat} {us : List Tok} {c : Nat} {q : Int}
theorem DR.lt (h : DR w pb D us c q) : pb < w.heap.size := by
  obtain ⟨_, _, _, _, _, _, _, h1, _⟩ := h.blk
  exact blk_lt h1
theorem DR.below (h : DR w pb D us c q) (hb : Below w.heap.size w w') : DR w' pb D us c q := by
  have hl := h.lt
  obtain ⟨ts, k, g, cap, h1, h2, h3, h4, h5⟩ := h.blk
  exact ⟨⟨ts, k, g, cap, h1, h2, h3, (hb.block pb hl).trans h4, owns_below h5 hb⟩, h.fine, h.dep⟩
theorem DR.alloc (h : DR w pb D us c q) (o : Obj) : DR (w.alloc o) pb D us c q := h.below ((Below.refl _ _).alloc (Nat.le_refl _) _)
theorem DR.drew (h : DR w pb D us c q) : DR w.drew pb D us c q := h.below (Below.refl _ _).drew
/-- A store elsewhere. -/
theorem DR.set {b i : Nat} (h : DR w pb D us c q) {cs : Array Value} {e : TypeId} (hb : w.heap[b]? = some (.cells cs e (0, 0))) (h1 : e ≠ 109) (h2 : e ≠ 110) (u : Value) : DR (w.setCell ⟨b, i, none⟩ u) pb D us c q := by
  obtain ⟨ts, k, g, cap, q1, q2, q3, q4, q5⟩ := h.blk
  have hrb : pb ≠ b := by
    rintro rfl
    rw [q4] at hb
    injection hb with hb
    injection hb with _ hb
    exact h1 hb.symm
  have hg : g ≠ b := by
    rintro rfl
    rcases q5.2 with ⟨hx, _⟩ | ⟨g', _, cur, hx, _, hh, _⟩
    · cases hx
    · injection hx with hx
      injection hx with hx
      injection hx with hx
      subst hx
      rw [hb] at hh
      injection hh with hh
      injection hh with _ hh
      exact h2 hh
  have hgr : w.grownBy (w.setCell ⟨b, i, none⟩ u) (some b) := ⟨rfl, rfl, rfl, by simp, fun k _ hn => Below.heap_setCell w ⟨b, i, none⟩ u k (fun e => hn (by rw [e]))⟩
  refine ⟨⟨ts, k, g, cap, q1, q2, q3, (Below.heap_setCell w ⟨b, i, none⟩ u pb hrb).trans q4, q5.kept hgr (.inr ?_)⟩, h.fine, h.dep⟩
  intro e
  exact hg (by simpa [Value.ownBlock] using e)
theorem DR.set5 (h : DR w pb D us c q) {b : Nat} {e : TypeId} {c0 c1 c2 c3 c4 : Value} (hb : w.heap[b]? = some (.cells #[c0, c1, c2, c3, c4] e (0, 0))) (h1 : e ≠ 109) (h2 : e ≠ 110) (x0 x1 x2 x3 x4 : Value) : DR (((((w.setCell ⟨b, 0, none⟩ x0).setCell ⟨b, 1, none⟩ x1).setCell ⟨b, 2, none⟩ x2).setCell ⟨b, 3, none⟩ x3).setCell ⟨b, 4, none⟩ x4) pb D us c q := by
  have k0 := blk_set (i := 0) hb x0
  have k1 := blk_set (i := 1) k0 x1
  have k2 := blk_set (i := 2) k1 x2
  have k3 := blk_set (i := 3) k2 x3
  exact ((((h.set hb h1 h2 x0).set k0 h1 h2 x1).set k1 h1 h2 x2).set k2 h1 h2 x3).set k3 h1 h2 x4
/-- What the walk reads of it. -/
theorem DR.view (h : DR w pb D us c q) : ∃ (k g n cap : Nat), w.heap[pb]? = some (.cells #[.slice (some ⟨g, 0, none⟩) n cap, .int .i64 (k : Int), .int .i64 (D : Int), .int .i64 (c : Int), .int .i64 q] 109 (0, 0)) ∧ k < n ∧ n ≤ 65537 ∧ w.cell? ⟨g, k * 3, none⟩ = some (.int .i64 (hd us).kind) ∧ w.cell? ⟨g, k * 3 + 1, none⟩ = some (.string ⟨(hd us).text.toArray⟩) ∧ w.cell? ⟨g, k * 3 + 2, none⟩ = some (.int .i64 (hd us).pos) ∧ g < w.heap.size ∧ g ≠ pb := by
  obtain ⟨ts, k, g, cap, q1, q2, q3, q4, q5⟩ := h.blk
  have ht : ts[k]? = some (hd us) := by rw [q1, List.drop_eq_getElem_cons q2, List.getElem?_eq_getElem q2]; rfl
  obtain ⟨c0, c1, c2⟩ := tok_cells q5 ht
  refine ⟨k, g, ts.length, cap, q4, q2, q3, c0, c1, c2, (q5.lt g rfl).2, ?_⟩
  rintro rfl
  rcases q5.2 with ⟨hx, _⟩ | ⟨g', _, cur, hx, _, hh, _⟩
  · cases hx
  · injection hx with hx
    injection hx with hx
    injection hx with hx
    subst hx
    rw [q4] at hh
    injection hh with hh
    injection hh with _ hh
    exact absurd hh (by decide)
theorem DR.cells (h : DR w pb D us c q) : w.cell? ⟨pb, 2, none⟩ = some (.int .i64 (D : Int)) ∧ w.cell? ⟨pb, 3, none⟩ = some (.int .i64 (c : Int)) ∧ w.cell? ⟨pb, 4, none⟩ = some (.int .i64 q) ∧ (∀ i, w.frozen? ⟨pb, i, none⟩ = false) := by
  obtain ⟨_, _, _, _, _, _, _, h1, _⟩ := h.blk
  exact ⟨(rd_cell h1 2).trans rfl, (rd_cell h1 3).trans rfl, (rd_cell h1 4).trans rfl, rd_frozen h1⟩
theorem DR.own (h : DR w pb D us c q) (i : Nat) (u : Value) : ∃ (ts : List Tok) (k g cap : Nat), us = ts.drop k ∧ k < ts.length ∧ ts.length ≤ 65537 ∧ w.heap[pb]? = some (.cells #[.slice (some ⟨g, 0, none⟩) ts.length cap, .int .i64 (k : Int), .int .i64 (D : Int), .int .i64 (c : Int), .int .i64 q] 109 (0, 0)) ∧ (w.setCell ⟨pb, i, none⟩ u).ownsRow 0 110 3 (.slice (some ⟨g, 0, none⟩) ts.length cap) ts.length (cellsT ts) := by
  obtain ⟨_, _, _, _, _, _, _, _, _, _, _, _⟩ := h.view
  obtain ⟨ts, k, g, cap, q1, q2, q3, q4, q5⟩ := h.blk
  refine ⟨ts, k, g, cap, q1, q2, q3, q4, q5.1, ?_⟩
  rcases q5.2 with h | ⟨g', cp, cur, hx, h1, h2, h3⟩
  · exact .inl h
  · refine .inr ⟨g', cp, cur, hx, h1, (Below.heap_setCell w ⟨pb, i, none⟩ u g' (fun e => ?_)).trans h2, h3⟩
    have e : g' = pb := e
    subst e
    rw [q4] at h2
    injection h2 with h2
    injection h2 with _ h2
    exact absurd h2 (by decide)
/-- It has gone on. -/
theorem DR.tail (h : DR w pb D us c q) (h0 : (hd us).kind ≠ 0) : ∃ k : Nat, w.cell? ⟨pb, 1, none⟩ = some (.int .i64 (k : Int)) ∧ k ≤ 65537 ∧ DR (w.setCell ⟨pb, 1, none⟩ (.int .i64 ((k : Int) + 1))) pb D us.tail c q := by
  obtain ⟨ts0, k0, g0, cap0, q1, q2, q3, q4, q5⟩ := h.blk
  obtain ⟨ts, k, g, cap, e1, e2, e3, e4, e5⟩ := h.own 1 (.int .i64 ((k0 : Int) + 1))
  have hk : k0 = k := by
    have e4 := e4
    rw [q4] at e4
    injection e4 with e4
    injection e4 with e4
    simp at e4
    have := e4.2
    omega
  subst hk
  have hm := h.fine.more h0
  have hk : k0 + 1 < ts.length := by
    have := hm.2
    rw [e1, List.tail_drop] at this
    apply Classical.byContradiction
    intro hx
    exact this (List.drop_eq_nil_of_le (by omega))
  refine ⟨k0, (rd_cell q4 1).trans rfl, by omega, ⟨ts, k0 + 1, g, cap, by rw [e1, List.tail_drop], hk, e3, ?_, e5⟩, hm.1, h.dep⟩
  have := blk_set (i := 1) e4 (.int .i64 ((k0 : Int) + 1))
  simpa using this
theorem DR.setErr (h : DR w pb D us c q) (c' : Nat) : DR (w.setCell ⟨pb, 3, none⟩ (.int .i64 (c' : Int))) pb D us c' q := by
  obtain ⟨ts, k, g, cap, e1, e2, e3, e4, e5⟩ := h.own 3 (.int .i64 (c' : Int))
  refine ⟨⟨ts, k, g, cap, e1, e2, e3, ?_, e5⟩, h.fine, h.dep⟩
  have := blk_set (i := 3) e4 (.int .i64 (c' : Int))
  simpa using this
theorem DR.setPos (h : DR w pb D us c q) (q' : Int) : DR (w.setCell ⟨pb, 4, none⟩ (.int .i64 q')) pb D us c q' := by
  obtain ⟨ts, k, g, cap, e1, e2, e3, e4, e5⟩ := h.own 4 (.int .i64 q')
  refine ⟨⟨ts, k, g, cap, e1, e2, e3, ?_, e5⟩, h.fine, h.dep⟩
  have := blk_set (i := 4) e4 (.int .i64 q')
  simpa using this
end
/-- It has failed, or stands at the tokens that are left. -/
def DS (w : World) (pb D : Nat) : St → Prop
  | .good us => DR w pb D us 0 (-1)
  | .bad c q => c ≠ 0 ∧ ∃ us, DR w pb D us c (q : Int)
def errOf : St → Nat
  | .good _ => 0
  | .bad c _ => c
section
variable {w w' : World} {pb D : Nat} {st : St}
theorem DS.any (h : DS w pb D st) : ∃ us q, DR w pb D us (errOf st) q := by
  cases st with
  | good us => exact ⟨us, -1, h⟩
  | bad c q => obtain ⟨_, us, h⟩ := h; exact ⟨us, _, h⟩
theorem DS.lt (h : DS w pb D st) : pb < w.heap.size := by obtain ⟨_, _, h⟩ := h.any; exact h.lt
theorem DS.below (h : DS w pb D st) (hb : Below w.heap.size w w') : DS w' pb D st := by
  cases st with
  | good us => exact DR.below h hb
  | bad c q => obtain ⟨h0, us, h⟩ := h; exact ⟨h0, us, h.below hb⟩
theorem DS.alloc (h : DS w pb D st) (o : Obj) : DS (w.alloc o) pb D st := h.below ((Below.refl _ _).alloc (Nat.le_refl _) _)
theorem DS.set5 (h : DS w pb D st) {b : Nat} {e : TypeId} {c0 c1 c2 c3 c4 : Value} (hb : w.heap[b]? = some (.cells #[c0, c1, c2, c3, c4] e (0, 0))) (h1 : e ≠ 109) (h2 : e ≠ 110) (x0 x1 x2 x3 x4 : Value) : DS (((((w.setCell ⟨b, 0, none⟩ x0).setCell ⟨b, 1, none⟩ x1).setCell ⟨b, 2, none⟩ x2).setCell ⟨b, 3, none⟩ x3).setCell ⟨b, 4, none⟩ x4) pb D st := by
  cases st with
  | good us => exact DR.set5 h hb h1 h2 _ _ _ _ _
  | bad c q => obtain ⟨h0, us, h⟩ := h; exact ⟨h0, us, h.set5 hb h1 h2 _ _ _ _ _⟩
theorem DS.cells (h : DS w pb D st) : w.cell? ⟨pb, 2, none⟩ = some (.int .i64 (D : Int)) ∧ w.cell? ⟨pb, 3, none⟩ = some (.int .i64 (errOf st : Int)) ∧ (∀ i, w.frozen? ⟨pb, i, none⟩ = false) := by
  obtain ⟨_, _, h⟩ := h.any
  obtain ⟨h1, h2, _, h3⟩ := h.cells
  exact ⟨h1, h2, h3⟩
end
/-- What one of its readers leaves: an expression, or none that counts. -/
def DP (pb D : Nat) (res : Option Ex × St) (w : World) (e : Ending) (w' : World) : Prop :=
  ∃ o nm n A l cap p, e = .returned (.agg #[.string o, .string nm, .int .i64 n, .slice A l cap, .int .i64 p]) ∧ Fr w.heap.size pb w w' ∧ DS w' pb D res.2 ∧ ∀ x, res.1 = some x → HC w' 70 w.heap.size w'.heap.size x (exC o nm n A l cap p)
def zeroE : Value := .agg #[.string ⟨#[]⟩, .string ⟨#[]⟩, .int .i64 0, .slice none 0 0, .int .i64 0]
theorem fieldr2 (a b c : Value) (w : World) : (Instr.field 110 (.agg #[a, b, c]) 2).run Tryz.prog w = .ok c w := by kernel_rfl
theorem fieldr1 (a b c : Value) (w : World) : (Instr.field 110 (.agg #[a, b, c]) 1).run Tryz.prog w = .ok b w := by kernel_rfl
theorem fieldr0 (a b c : Value) (w : World) : (Instr.field 110 (.agg #[a, b, c]) 0).run Tryz.prog w = .ok a w := by kernel_rfl
set_option maxHeartbeats 1000000 in
theorem rnow_any {w : World} {pb D : Nat} {us : List Tok} {c : Nat} {q : Int} (h : DR w pb D us c q) : Calls Tryz.prog 54 #[.pointer (some ⟨pb, 0, none⟩)] w fun e w' => e = .returned (.agg #[.int .i64 (hd us).kind, .string ⟨(hd us).text.toArray⟩, .int .i64 (hd us).pos]) ∧ Below w.heap.size w w' := by
  have hl := h.lt
  obtain ⟨k, g, n, cap, h1, h2, h3, c0, c1, c2, hg, hne⟩ := h.view
  have r0 := rd_cell h1 0
  have r1 := rd_cell h1 1
  simp only [List.getElem?_toArray, List.getElem?_cons_zero, List.getElem?_cons_succ] at r0 r1
  have k0 : (0 : Int) ≤ (k : Int) := by omega
  have k1 : (k : Int) < (n : Int) := by omega
  clear h1 h hne
  generalize (⟨(hd us).text.toArray⟩ : ByteArray) = tb at *
  generalize ((hd us).kind : Int) = kd at *
  generalize ((hd us).pos : Int) = ps at *
  go_enter Tryz.func54, Tryz.ntmps54
  go_wp2
  go_region
  go_wp2
  exact bodyPost_ret (v := .agg #[.int .i64 kd, .string tb, .int .i64 ps]) (by simp [results, Tryz.results54, go_sem]) rfl ⟨rfl, ((Below.refl _ _).alloc (Nat.le_refl _) _).drew⟩
set_option maxHeartbeats 1000000 in
theorem ris_any {w : World} {pb D : Nat} {us : List Tok} {c : Nat} {q : Int} (h : DR w pb D us c q) (x : ByteArray) : Calls Tryz.prog 66 #[.pointer (some ⟨pb, 0, none⟩), .string x] w fun e w' => e = .returned (.bool (isT (hd us) x.data.toList)) ∧ Below w.heap.size w w' := by
  have H := Lib.hid (rnow_any h)
  obtain ⟨t, ht⟩ : ∃ t, t = hd us := ⟨_, rfl⟩
  rw [← ht] at H ⊢
  have HX := Lib.hid (show (t.text == x.toList) = (t.text == x.data.toList) by rw [ByteArray.toList_eq])
  unfold isT
  clear h ht
  by_cases h1 : t.kind = 1
  · have e1 : (t.kind == 1 || t.kind == 4) = true := by simp [h1]
    rw [e1, Bool.true_and]
    have g1 : ((t.kind : Int) == 1) = true := by simp [h1]
    clear e1 h1
    go_enter Tryz.func66, Tryz.ntmps66
    go_wp2_with fail
    with_reducible refine (H.out).mono ?_
    rintro e w1 ⟨rfl, hb⟩
    go_wp2
    go_ret
    exact ⟨by rw [← HX.out]; rfl, hb.alloc hb.size _⟩
  by_cases h4 : t.kind = 4
  · have e1 : (t.kind == 1 || t.kind == 4) = true := by simp [h4]
    rw [e1, Bool.true_and]
    have g1 : ((t.kind : Int) == 1) = false := by simp [h4]
    have g2 : ((t.kind : Int) == 4) = true := by simp [h4]
    clear e1 h1 h4
    go_enter Tryz.func66, Tryz.ntmps66
    go_wp2_with fail
    with_reducible refine (H.out).mono ?_
    rintro e w1 ⟨rfl, hb⟩
    go_wp2
    go_ret
    exact ⟨by rw [← HX.out]; rfl, hb.alloc hb.size _⟩
  · have e1 : (t.kind == 1 || t.kind == 4) = false := by simp [h1, h4]
    rw [e1, Bool.false_and]
    have g1 : ((t.kind : Int) == 1) = false := by rw [beq_eq_false_iff_ne]; omega
    have g2 : ((t.kind : Int) == 4) = false := by rw [beq_eq_false_iff_ne]; omega
    clear e1 h1 h4
    go_enter Tryz.func66, Tryz.ntmps66
    go_wp2_with fail
    with_reducible refine (H.out).mono ?_
    rintro e w1 ⟨rfl, hb⟩
    go_wp2
    go_ret
    exact ⟨rfl, hb.alloc hb.size _⟩
theorem Fr.boxR {B pb b : Nat} {a w : World} (h : Fr B pb a w) (hb : B ≤ b) (x0 x1 x2 x3 x4 : Value) : Fr B pb a (((((w.setCell ⟨b, 0, none⟩ x0).setCell ⟨b, 1, none⟩ x1).setCell ⟨b, 2, none⟩ x2).setCell ⟨b, 3, none⟩ x3).setCell ⟨b, 4, none⟩ x4) := h.set5 hb _ _ _ _ _
theorem BoxR.new (w : World) (c0 c1 c2 c3 c4 : Value) : BoxR (w.alloc (.cells #[c0, c1, c2, c3, c4] 70)) w.heap.size c0 c1 c2 c3 c4 := heap_alloc_new w _
theorem BoxR.alloc {w : World} {b : Nat} {c0 c1 c2 c3 c4 : Value} (h : BoxR w b c0 c1 c2 c3 c4) (o : Obj) : BoxR (w.alloc o) b c0 c1 c2 c3 c4 := h.below ((Below.refl _ _).alloc (Nat.le_refl _) _)
theorem BoxR.far {w : World} {b : Nat} {c0 c1 c2 c3 c4 : Value} (h : BoxR w b c0 c1 c2 c3 c4) {p : Addr} (hp : b ≠ p.block) (u : Value) : BoxR (w.setCell p u) b c0 c1 c2 c3 c4 := (Below.heap_setCell w p u b hp).trans h
theorem BoxR.fr {w w' : World} {b pb : Nat} {c0 c1 c2 c3 c4 : Value} (h : BoxR w b c0 c1 c2 c3 c4) (hf : Fr w.heap.size pb w w') (hn : b ≠ pb) : BoxR w' b c0 c1 c2 c3 c4 := (hf.block b h.lt hn).trans h
set_option maxHeartbeats 1000000 in
theorem rfail_any {w : World} {pb D : Nat} {st : St} (h : DS w pb D st) (c : Nat) (hc : c ≠ 0) (z : Int) (hz : z = (c : Int)) : Calls Tryz.prog 55 #[.pointer (some ⟨pb, 0, none⟩), .int .i64 z] w fun e w' => e = .returned zeroE ∧ Fr w.heap.size pb w w' ∧ DS w' pb D (st.fail c) := by
  subst hz
  unfold zeroE
  have hl := h.lt
  cases st with
  | bad c0 q0 =>
    obtain ⟨hc0, us, h⟩ := h
    obtain ⟨e2, e3, e4, ef⟩ := h.cells
    have g0 : ((c0 : Int) == 0) = false := by rw [beq_eq_false_iff_ne]; omega
    have HB := Lib.hid (BoxR.new w (.string ⟨#[]⟩) (.string ⟨#[]⟩) (.int .i64 0) (.slice none 0 0) (.int .i64 0))
    have HR := Lib.hid h
    clear h
    go_enter Tryz.func55, Tryz.ntmps55
    go_wp2
    obtain ⟨d0, d1, d2, d3, d4⟩ := HB.out.cells
    refine bodyPost_ret (v := .agg #[.string ⟨#[]⟩, .string ⟨#[]⟩, .int .i64 0, .slice none 0 0, .int .i64 0]) (by simp [results, Tryz.results55, go_sem, d0, d1, d2, d3, d4]) rfl ⟨rfl, ?_, hc0, us, ?_⟩
    · exact (Fr.refl _ _ _).alloc (Nat.le_refl _) _
    · exact HR.out.alloc _
  | good us =>
    have h : DR w pb D us 0 (-1) := h
    obtain ⟨e2, e3, e4, ef⟩ := h.cells
    have f3 := ef 3
    have f4 := ef 4
    clear ef
    have HB := Lib.hid (BoxR.new w (.string ⟨#[]⟩) (.string ⟨#[]⟩) (.int .i64 0) (.slice none 0 0) (.int .i64 0))
    have HR := Lib.hid h
    clear h
    go_enter Tryz.func55, Tryz.ntmps55
    go_wp2_with fail
    refine calls_gen (P := fun W => DR W pb D us c (-1) ∧ BoxR W w.heap.size (.string ⟨#[]⟩) (.string ⟨#[]⟩) (.int .i64 0) (.slice none 0 0) (.int .i64 0) ∧ Fr w.heap.size pb w W) ⟨(HR.out.setErr c).alloc _, heapN (by simp) _, ((Fr.refl _ _ _).setCell (p := ⟨pb, 3, none⟩) (.inr rfl) _).alloc (by simp) _⟩ ?_
    rintro W ⟨hD, hB, hF⟩
    refine (rnow_any hD).mono ?_
    rintro e w1 ⟨rfl, hb1⟩
    have HD1 := Lib.hid (hD.below hb1)
    have HB1 := Lib.hid (hB.below hb1)
    have HF1 := Lib.hid (hF.onB hF.size hb1)
    have f4 := HD1.out.cells.2.2.2 4
    have c4 := HD1.out.cells.2.2.1
    have hl1 := HD1.out.lt
    have hf2 := fieldr2
    obtain ⟨b0, b1, b2, b3, b4⟩ := HB1.out.cells
    have z0 := HB1.out.frozen 0
    have z1 := HB1.out.frozen 1
    have z2 := HB1.out.frozen 2
    have z3 := HB1.out.frozen 3
    have z4 := HB1.out.frozen 4
    have hbl := HB1.out.lt
    have hne : w.heap.size ≠ pb := by omega
    clear hD hB hF hb1 f3
    go_wp2
    have HBF := HB1.out.far (p := ⟨pb, 4, none⟩) hne (.int .i64 ((hd us).pos : Int))
    obtain ⟨d0, d1, d2, d3, d4⟩ := (HBF.set5 (.string ⟨#[]⟩) (.string ⟨#[]⟩) (.int .i64 0) (.slice none 0 0) (.int .i64 0)).cells
    refine bodyPost_ret (v := .agg #[.string ⟨#[]⟩, .string ⟨#[]⟩, .int .i64 0, .slice none 0 0, .int .i64 0]) (by simp [results, Tryz.results55, go_sem, d0, d1, d2, d3, d4]) rfl ⟨rfl, ?_, hc, us, ?_⟩
    · exact (HF1.out.setCell (p := ⟨pb, 4, none⟩) (.inr rfl) _).boxR (Nat.le_refl _) _ _ _ _ _
    · exact (HD1.out.setPos _).set5 HBF (by decide) (by decide) _ _ _ _ _
set_option maxHeartbeats 1000000 in
theorem rwant_any {w : World} {pb D : Nat} {st : St} (h : DS w pb D st) (x : ByteArray) : Calls Tryz.prog 67 #[.pointer (some ⟨pb, 0, none⟩), .string x] w fun e w' => e = .returned (.tuple #[]) ∧ Fr w.heap.size pb w w' ∧ DS w' pb D (st.want x.data.toList) := by
  have hl := h.lt
  cases st with
  | bad c0 q0 =>
    have HS := Lib.hid h
    obtain ⟨hc0, us, h⟩ := h
    obtain ⟨e2, e3, e4, ef⟩ := h.cells
    have g0 : ((c0 : Int) != 0) = true := by rw [bne_iff_ne]; omega
    clear h
    go_enter Tryz.func67, Tryz.ntmps67
    go_wp2
    exact bodyPost_ret (v := .tuple #[]) (results_none rfl _ _ _) rfl ⟨rfl, Fr.refl _ _ _, HS.out⟩
  | good us =>
    have h : DR w pb D us 0 (-1) := h
    obtain ⟨e2, e3, e4, ef⟩ := h.cells
    have H := Lib.hid (ris_any h x)
    have HR := Lib.hid h
    cases hi : isT (hd us) x.data.toList with
    | false =>
      rw [hi] at H
      have HW := Lib.hid (show (St.good us).want x.data.toList = (St.good us).fail 20 by unfold St.want; rw [show (St.good us).hd = hd us from rfl, hi]; rfl)
      clear h hi ef
      go_enter Tryz.func67, Tryz.ntmps67
      go_wp2_with fail
      refine (H.out).mono ?_
      rintro e w1 ⟨rfl, hb1⟩
      have HD1 := Lib.hid (show DS w1 pb D (.good us) from HR.out.below hb1)
      have HF1 := Lib.hid (Fr.of (rb := pb) hb1)
      clear hb1
      go_wp2_with fail
      refine (rfail_any HD1.out 20 (by decide) 20 rfl).mono ?_
      rintro e w2 ⟨rfl, hF2, hD2⟩
      have HD2 := Lib.hid hD2
      have HF2 := Lib.hid (HF1.out.on HF1.out.size hF2)
      unfold zeroE
      clear hF2 hD2
      go_wp2
      exact bodyPost_ret (v := .tuple #[]) (results_none rfl _ _ _) rfl ⟨rfl, HF2.out, by rw [HW.out]; exact HD2.out⟩
    | true =>
      rw [hi] at H
      have HW := Lib.hid (show (St.good us).want x.data.toList = .good us.tail by unfold St.want; rw [show (St.good us).hd = hd us from rfl, hi]; rfl)
      have HK := Lib.hid (isT_kind hi)
      clear h hi ef
      go_enter Tryz.func67, Tryz.ntmps67
      go_wp2_with fail
      refine (H.out).mono ?_
      rintro e w1 ⟨rfl, hb1⟩
      obtain ⟨k, hk1, hk2, hT⟩ := (HR.out.below hb1).tail HK.out
      have f1 := (HR.out.below hb1).cells.2.2.2 1
      have hl1 := (HR.out.below hb1).lt
      have HT := Lib.hid hT
      have HF1 := Lib.hid (Fr.of (rb := pb) hb1)
      clear hb1 hT
      go_wp2
      go_end0
      exact ⟨rfl, HF1.out.setCell (p := ⟨pb, 1, none⟩) (.inr rfl) _, by rw [HW.out]; exact HT.out⟩
end Go.Proofs.YtddeplbgihcdkaaGreatDoor
