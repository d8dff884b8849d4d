/-
  Lists of truths in memory; opposite, both, either, walked.
-/
import Derived.Test.YtkddaobbjfnckaaGreatDoorO3
import Derived.Test.YtkddaobbjfnckaaGreatDoorJB
import Derived.Deep.LoopGhost
import Derived.OwnWalk
namespace Go.Proofs.YtkddaobbjfnckaaGreatDoor
open Go.RowKit

/-- Slices read as lists: of numbers, truths, texts. -/
def ISl (w : World) (A : Option Addr) (l : List Int) : Prop := ∀ i (h : i < l.length), ∃ g o, A = some ⟨g, o, none⟩ ∧ w.cell? ⟨g, o + i, none⟩ = some (.int .i64 l[i])
def BSl (w : World) (A : Option Addr) (l : List Bool) : Prop := ∀ i (h : i < l.length), ∃ g o, A = some ⟨g, o, none⟩ ∧ w.cell? ⟨g, o + i, none⟩ = some (.bool l[i])
def SSl (w : World) (A : Option Addr) (l : List ByteArray) : Prop := ∀ i (h : i < l.length), ∃ g o, A = some ⟨g, o, none⟩ ∧ w.cell? ⟨g, o + i, none⟩ = some (.string l[i])
section
variable {w w' : World} {A : Option Addr}
theorem cell_blw {a : Addr} {v : Value} (hb : Below w.heap.size w w') (h : w.cell? a = some v) : w'.cell? a = some v := (hb.cell (World.block_lt_of_cell? w _ h)).trans h
theorem ISl.below {l : List Int} (h : ISl w A l) (hb : Below w.heap.size w w') : ISl w' A l := fun i hi => by
  obtain ⟨g, o, h1, h2⟩ := h i hi
  exact ⟨g, o, h1, cell_blw hb h2⟩
theorem BSl.below {l : List Bool} (h : BSl w A l) (hb : Below w.heap.size w w') : BSl w' A l := fun i hi => by
  obtain ⟨g, o, h1, h2⟩ := h i hi
  exact ⟨g, o, h1, cell_blw hb h2⟩
theorem SSl.below {l : List ByteArray} (h : SSl w A l) (hb : Below w.heap.size w w') : SSl w' A l := fun i hi => by
  obtain ⟨g, o, h1, h2⟩ := h i hi
  exact ⟨g, o, h1, cell_blw hb h2⟩
end
theorem below_alloc (w : World) (o : Obj) : Below w.heap.size w (w.alloc o) := (Below.refl _ _).alloc (Nat.le_refl _) o
theorem below_t {a b c : World} (h : Below a.heap.size a b) (k : Below b.heap.size b c) : Below a.heap.size a c := h.trans (k.mono h.size)
theorem ret_bool {a b : Bool} (h : a = b) : Ending.returned (.bool a) = .returned (.bool b) := by rw [h]
def BoolP (b : Bool) (w : World) (e : Ending) (w' : World) : Prop := e = .returned (.bool b) ∧ Below w.heap.size w w'
theorem owns_full {w : World} {base n g : Nat} {e : TypeId} {cs : List Value} (h : w.ownsRow base e 1 (.slice (some ⟨g, 0, none⟩) n n) n cs) : Bx w g e cs := by
  rcases h.2 with ⟨hv, _⟩ | ⟨g', cap, cur, hv, _, h3, _, _, h6, h7⟩
  · cases hv
  · simp only [Value.slice.injEq, Option.some.injEq, Addr.mk.injEq] at hv
    obtain ⟨⟨rfl, _, _⟩, _, rfl⟩ := hv
    have : cs = cur.toList := by
      rw [← h7, List.take_of_length_le]
      rw [Array.length_toList]
      omega
    subst this
    exact h3
theorem made_one (z : Value) (n : Nat) : (madeCells #[z] n).toList = List.replicate n z := by
  rw [List.eq_replicate_iff]
  constructor
  · rw [Array.length_toList, size_madeCells]
  · intro u hu
    unfold madeCells at hu
    simp only [Array.toList_map, Array.toList_range, List.mem_map] at hu
    obtain ⟨j, _, rfl⟩ := hu
    have : j % (#[z] : Array Value).size = 0 := Nat.mod_one j
    rw [this]
    rfl
theorem infoBo : (Tryz.prog.info? 4).map (fun i => (i.zero, i.size, i.bytes)) = some (some (.bool false), 1, 1) := by kernel_rfl
def bv (b : Bool) : Value := .bool b
theorem bsl_bx {w : World} {g : Nat} {l : List Bool} (h : Bx w g 4 (l.map bv)) : BSl w (some ⟨g, 0, none⟩) l := fun i hi => by
  refine ⟨g, 0, rfl, ?_⟩
  rw [Nat.zero_add, h.cell i, List.getElem?_map, List.getElem?_eq_getElem hi]; rfl
/-- What a call leaves that makes a list of truths. -/
def BLP (r : List Bool) (w : World) (e : Ending) (w' : World) : Prop := ∃ A cap, e = .returned (.slice A r.length cap) ∧ r.length ≤ cap ∧ BSl w' A r ∧ Below w.heap.size w w'
/-- A list of truths that is being filled. -/
structure FilR (g n : Nat) (tgt : List Bool) (k : Nat) (w0 wr : World) : Prop where
  cells : ∃ cur : List Bool, cur.length = n ∧ Bx wr g 4 (cur.map bv) ∧ ∀ j, j < k → cur.getD j false = tgt.getD j false
  lo : w0.heap.size ≤ g
  blw : Below w0.heap.size w0 wr
section
variable {g n k : Nat} {tgt : List Bool} {w0 wr : World}
theorem FilR.start (h : Bx wr g 4 (List.replicate n (.bool false))) (h1 : w0.heap.size ≤ g) (h2 : Below w0.heap.size w0 wr) : FilR g n tgt 0 w0 wr :=
  ⟨⟨List.replicate n false, List.length_replicate, by rw [List.map_replicate]; exact h, fun j hj => absurd hj (by omega)⟩, h1, h2⟩
theorem FilR.cell (h : FilR g n tgt k w0 wr) {j : Nat} (hj : j < n) : (∃ b, wr.cell? ⟨g, j, none⟩ = some (.bool b)) ∧ wr.frozen? ⟨g, j, none⟩ = false ∧ g < wr.heap.size := by
  obtain ⟨cur, h1, h2, _⟩ := h.cells
  refine ⟨⟨cur[j]'(by omega), ?_⟩, h2.frozen j, h2.lt⟩
  rw [h2.cell j, List.getElem?_map, List.getElem?_eq_getElem (by omega)]; rfl
theorem FilR.step (h : FilR g n tgt k w0 wr) (hk : k < n) {b : Bool} (hb : b = tgt.getD k false) : FilR g n tgt (k + 1) w0 (wr.setCell ⟨g, k, none⟩ (.bool b)) := by
  obtain ⟨cur, h1, h2, h3⟩ := h.cells
  refine ⟨⟨cur.set k b, by rw [List.length_set]; exact h1, ?_, fun j hj => ?_⟩, h.lo, h.blw.setCell (by have := h.lo; exact this) _⟩
  · have := h2.set k (.bool b)
    rwa [show (cur.map bv).set k (.bool b) = (cur.set k b).map bv by rw [List.map_set]; rfl] at this
  · rw [List.getD_eq_getElem?_getD, List.getElem?_set]
    by_cases e : k = j
    · subst e
      rw [if_pos rfl, if_pos (by omega)]; exact hb
    · rw [if_neg e, ← List.getD_eq_getElem?_getD]
      exact h3 j (by omega)
theorem FilR.done (h : FilR g n tgt n w0 wr) (hl : tgt.length = n) : BSl wr (some ⟨g, 0, none⟩) tgt := by
  obtain ⟨cur, h1, h2, h3⟩ := h.cells
  have : cur = tgt := by
    apply List.ext_getElem (by omega)
    intro i hi hi'
    have := h3 i (by omega)
    rw [List.getD_eq_getElem?_getD, List.getD_eq_getElem?_getD, List.getElem?_eq_getElem hi, List.getElem?_eq_getElem hi'] at this
    exact this
  subst this
  exact bsl_bx h2
end
theorem blp_ret {w w' : World} {r : List Bool} {g n : Nat} (h : BSl w' (some ⟨g, 0, none⟩) r) (hl : r.length = n) (hb : Below w.heap.size w w') : BLP r w (.returned (.slice (some ⟨g, 0, none⟩) n n)) w' := by
  subst hl
  exact ⟨_, _, rfl, Nat.le_refl _, h, hb⟩
def FilRel (g n : Nat) (tgt : List Bool) (w0 : World) (i : Value) (wr : World) : Prop := ∃ k : Nat, i = .int .i64 (k : Int) ∧ k ≤ n ∧ FilR g n tgt k w0 wr
theorem bget {l : List Bool} {k : Nat} (h : k < l.length) : l[k] = l.getD k false := by rw [List.getD_eq_getElem?_getD, List.getElem?_eq_getElem h]; rfl
set_option maxHeartbeats 2000000 in
theorem opp_any {A : Option Addr} {l : List Bool} {cap : Nat} (w : World) (h : BSl w A l) (hlen : l.length ≤ 1000000) : Calls Tryz.prog 58 #[.slice A l.length cap] w (BLP (l.map (!·)) w) := by
  obtain ⟨i0, hi0, hz⟩ := Option.map_eq_some_iff.1 infoBo
  simp only [Prod.mk.injEq] at hz
  obtain ⟨hz0, hz1, hz2⟩ := hz
  have HI := Lib.hid hi0
  have HZ0 := Lib.hid hz0
  have HZ1 := Lib.hid hz1
  have HZ2 := Lib.hid hz2
  have HL := Lib.hid h
  obtain ⟨n, hn⟩ : ∃ n, n = l.length := ⟨_, rfl⟩
  obtain ⟨tgt, ht⟩ : ∃ t, t = l.map (!·) := ⟨_, rfl⟩
  have HN := Lib.hid hn
  have HT := Lib.hid ht
  have HTL := Lib.hid (show tgt.length = n by rw [ht, hn]; simp)
  rw [← hn] at hlen ⊢
  rw [← ht]
  clear h hn ht hi0 hz0 hz1 hz2
  go_enter Tryz.func58, Tryz.ntmps58
  go_wp2_with (at_make; refine wpList_make_full _ rfl _ _ 39 rfl w.heap.size 4 i0 (.bool false) 1 Tryz.underlying39 HI.out HZ0.out HZ1.out .i64 .i64 (n : Int) (n : Int) n rfl rfl rfl rfl (by rw [HZ2.out]; omega) (by unfold maxLen; omega) (Nat.le_refl _) ?_)
  intro w1 ho1 hg1
  rw [made_one] at ho1
  have HB1 := Lib.hid ((Below.refl w.heap.size w).grown hg1 (Nat.le_refl _) (fun k hk => by cases hk))
  have HX1 := Lib.hid (FilR.start (tgt := tgt) (owns_full ho1) (Nat.le_refl _) HB1.out)
  clear ho1 hg1
  go_wp2
  go_loopw [11] (fun i wr => FilRel w.heap.size n tgt w i wr) (fun i _ => n - (intOf i).toNat)
  case atStart => exact ⟨0, rfl, Nat.zero_le _, HX1.out⟩
  case round =>
    obtain ⟨k, rfl, hk, hF⟩ := hrel
    by_cases hlt : k < n
    · have d1 : decide (k < n) = true := by simp; omega
      have kk : k < l.length := by rw [← HN.out]; exact hlt
      obtain ⟨g, o, rfl, c1⟩ := HL.out.below hF.blw k kk
      have HLL := Lib.hid HL
      clear HL
      obtain ⟨⟨b0, c2⟩, f2, g2⟩ := hF.cell hlt
      have HE := Lib.hid (show (!l[k]) = tgt.getD k false by rw [HT.out, List.getD_eq_getElem?_getD, List.getElem?_map, List.getElem?_eq_getElem kk]; rfl)
      generalize l[k] = b at *
      have HF := Lib.hid hF
      clear hF hk
      go_wp2_with fail
      go_roundw
      case rel => exact ⟨k + 1, by go_num, by omega, HF.out.step hlt HE.out⟩
      case measure => simp [intOf]; omega
    · have d1 : decide (k < n) = false := by simp; omega
      have hkn : k = n := by omega
      subst hkn
      have HF := Lib.hid hF
      clear hF hk
      go_wp2_with fail
      go_ret
      exact blp_ret (HF.out.done HTL.out) HTL.out HF.out.blw
end Go.Proofs.YtkddaobbjfnckaaGreatDoor
