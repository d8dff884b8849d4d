/-
  Lists of truths in memory; opposite, both, either, walked. both, either, until, walked. until, walked: twice round, from the back.
-/
import Derived.Test.YtmgjpjjglghbaaaGreatDoorOA
import Derived.Test.YtmgjpjjglghbaaaGreatDoorJB
import Derived.Deep.LoopGhost
import Derived.OwnWalk
namespace Go.Proofs.YtmgjpjjglghbaaaGreatDoor
section
open Go.RowKit

/-- Slices read as lists: of numbers, truths, texts. -/
def ISl (w : World) (A : Option Addr) (l : List Int) : Prop := ∀ i (h : i < l.length), ∃ g o, A = some ⟨g, o, none⟩ ∧ w.cell? ⟨g, o + i, none⟩ = some (.int .i64 l[i])
def BSl (w : World) (A : Option Addr) (l : List Bool) : Prop := ∀ i (h : i < l.length), ∃ g o, A = some ⟨g, o, none⟩ ∧ w.cell? ⟨g, o + i, none⟩ = some (.bool l[i])
def SSl (w : World) (A : Option Addr) (l : List ByteArray) : Prop := ∀ i (h : i < l.length), ∃ g o, A = some ⟨g, o, none⟩ ∧ w.cell? ⟨g, o + i, none⟩ = some (.string l[i])
section
variable {w w' : World} {A : Option Addr}
theorem cell_blw {a : Addr} {v : Value} (hb : Below w.heap.size w w') (h : w.cell? a = some v) : w'.cell? a = some v := (hb.cell (World.block_lt_of_cell? w _ h)).trans h
theorem ISl.below {l : List Int} (h : ISl w A l) (hb : Below w.heap.size w w') : ISl w' A l := fun i hi => by
  obtain ⟨g, o, h1, h2⟩ := h i hi
  exact ⟨g, o, h1, cell_blw hb h2⟩
theorem BSl.below {l : List Bool} (h : BSl w A l) (hb : Below w.heap.size w w') : BSl w' A l := fun i hi => by
  obtain ⟨g, o, h1, h2⟩ := h i hi
  exact ⟨g, o, h1, cell_blw hb h2⟩
theorem SSl.below {l : List ByteArray} (h : SSl w A l) (hb : Below w.heap.size w w') : SSl w' A l := fun i hi => by
  obtain ⟨g, o, h1, h2⟩ := h i hi
  exact ⟨g, o, h1, cell_blw hb h2⟩
end
theorem below_alloc (w : World) (o : Obj) : Below w.heap.size w (w.alloc o) := (Below.refl _ _).alloc (Nat.le_refl _) o
theorem below_t {a b c : World} (h : Below a.heap.size a b) (k : Below b.heap.size b c) : Below a.heap.size a c := h.trans (k.mono h.size)
theorem ret_bool {a b : Bool} (h : a = b) : Ending.returned (.bool a) = .returned (.bool b) := by rw [h]
def BoolP (b : Bool) (w : World) (e : Ending) (w' : World) : Prop := e = .returned (.bool b) ∧ Below w.heap.size w w'
theorem owns_full {w : World} {base n g : Nat} {e : TypeId} {cs : List Value} (h : w.ownsRow base e 1 (.slice (some ⟨g, 0, none⟩) n n) n cs) : Bx w g e cs := by
  rcases h.2 with ⟨hv, _⟩ | ⟨g', cap, cur, hv, _, h3, _, _, h6, h7⟩
  · cases hv
  · simp only [Value.slice.injEq, Option.some.injEq, Addr.mk.injEq] at hv
    obtain ⟨⟨rfl, _, _⟩, _, rfl⟩ := hv
    have : cs = cur.toList := by
      rw [← h7, List.take_of_length_le]
      rw [Array.length_toList]
      omega
    subst this
    exact h3
theorem made_one (z : Value) (n : Nat) : (madeCells #[z] n).toList = List.replicate n z := by
  rw [List.eq_replicate_iff]
  constructor
  · rw [Array.length_toList, size_madeCells]
  · intro u hu
    unfold madeCells at hu
    simp only [Array.toList_map, Array.toList_range, List.mem_map] at hu
    obtain ⟨j, _, rfl⟩ := hu
    have : j % (#[z] : Array Value).size = 0 := Nat.mod_one j
    rw [this]
    rfl
theorem infoBo : (Tryz.prog.info? 4).map (fun i => (i.zero, i.size, i.bytes)) = some (some (.bool false), 1, 1) := by kernel_rfl
def bv (b : Bool) : Value := .bool b
theorem bsl_bx {w : World} {g : Nat} {l : List Bool} (h : Bx w g 4 (l.map bv)) : BSl w (some ⟨g, 0, none⟩) l := fun i hi => by
  refine ⟨g, 0, rfl, ?_⟩
  rw [Nat.zero_add, h.cell i, List.getElem?_map, List.getElem?_eq_getElem hi]; rfl
/-- What a call leaves that makes a list of truths. -/
def BLP (r : List Bool) (w : World) (e : Ending) (w' : World) : Prop := ∃ A cap, e = .returned (.slice A r.length cap) ∧ r.length ≤ cap ∧ BSl w' A r ∧ Below w.heap.size w w'
/-- A list of truths that is being filled. -/
structure FilR (g n : Nat) (tgt : List Bool) (k : Nat) (w0 wr : World) : Prop where
  cells : ∃ cur : List Bool, cur.length = n ∧ Bx wr g 4 (cur.map bv) ∧ ∀ j, j < k → cur.getD j false = tgt.getD j false
  lo : w0.heap.size ≤ g
  blw : Below w0.heap.size w0 wr
section
variable {g n k : Nat} {tgt : List Bool} {w0 wr : World}
theorem FilR.start (h : Bx wr g 4 (List.replicate n (.bool false))) (h1 : w0.heap.size ≤ g) (h2 : Below w0.heap.size w0 wr) : FilR g n tgt 0 w0 wr :=
  ⟨⟨List.replicate n false, List.length_replicate, by rw [List.map_replicate]; exact h, fun j hj => absurd hj (by omega)⟩, h1, h2⟩
theorem FilR.cell (h : FilR g n tgt k w0 wr) {j : Nat} (hj : j < n) : (∃ b, wr.cell? ⟨g, j, none⟩ = some (.bool b)) ∧ wr.frozen? ⟨g, j, none⟩ = false ∧ g < wr.heap.size := by
  obtain ⟨cur, h1, h2, _⟩ := h.cells
  refine ⟨⟨cur[j]'(by omega), ?_⟩, h2.frozen j, h2.lt⟩
  rw [h2.cell j, List.getElem?_map, List.getElem?_eq_getElem (by omega)]; rfl
theorem FilR.step (h : FilR g n tgt k w0 wr) (hk : k < n) {b : Bool} (hb : b = tgt.getD k false) : FilR g n tgt (k + 1) w0 (wr.setCell ⟨g, k, none⟩ (.bool b)) := by
  obtain ⟨cur, h1, h2, h3⟩ := h.cells
  refine ⟨⟨cur.set k b, by rw [List.length_set]; exact h1, ?_, fun j hj => ?_⟩, h.lo, h.blw.setCell (by have := h.lo; exact this) _⟩
  · have := h2.set k (.bool b)
    rwa [show (cur.map bv).set k (.bool b) = (cur.set k b).map bv by rw [List.map_set]; rfl] at this
  · rw [List.getD_eq_getElem?_getD, List.getElem?_set]
    by_cases e : k = j
    · subst e
      rw [if_pos rfl, if_pos (by omega)]; exact hb
    · rw [if_neg e, ← List.getD_eq_getElem?_getD]
      exact h3 j (by omega)
theorem FilR.done (h : FilR g n tgt n w0 wr) (hl : tgt.length = n) : BSl wr (some ⟨g, 0, none⟩) tgt := by
  obtain ⟨cur, h1, h2, h3⟩ := h.cells
  have : cur = tgt := by
    apply List.ext_getElem (by omega)
    intro i hi hi'
    have := h3 i (by omega)
    rw [List.getD_eq_getElem?_getD, List.getD_eq_getElem?_getD, List.getElem?_eq_getElem hi, List.getElem?_eq_getElem hi'] at this
    exact this
  subst this
  exact bsl_bx h2
end
theorem blp_ret {w w' : World} {r : List Bool} {g n : Nat} (h : BSl w' (some ⟨g, 0, none⟩) r) (hl : r.length = n) (hb : Below w.heap.size w w') : BLP r w (.returned (.slice (some ⟨g, 0, none⟩) n n)) w' := by
  subst hl
  exact ⟨_, _, rfl, Nat.le_refl _, h, hb⟩
def FilRel (g n : Nat) (tgt : List Bool) (w0 : World) (i : Value) (wr : World) : Prop := ∃ k : Nat, i = .int .i64 (k : Int) ∧ k ≤ n ∧ FilR g n tgt k w0 wr
theorem bget {l : List Bool} {k : Nat} (h : k < l.length) : l[k] = l.getD k false := by rw [List.getD_eq_getElem?_getD, List.getElem?_eq_getElem h]; rfl
set_option maxHeartbeats 2000000 in
theorem opp_any {A : Option Addr} {l : List Bool} {cap : Nat} (w : World) (h : BSl w A l) (hlen : l.length ≤ 1000000) : Calls Tryz.prog 81 #[.slice A l.length cap] w (BLP (l.map (!·)) w) := by
  obtain ⟨i0, hi0, hz⟩ := Option.map_eq_some_iff.1 infoBo
  simp only [Prod.mk.injEq] at hz
  obtain ⟨hz0, hz1, hz2⟩ := hz
  have HI := Lib.hid hi0
  have HZ0 := Lib.hid hz0
  have HZ1 := Lib.hid hz1
  have HZ2 := Lib.hid hz2
  have HL := Lib.hid h
  obtain ⟨n, hn⟩ : ∃ n, n = l.length := ⟨_, rfl⟩
  obtain ⟨tgt, ht⟩ : ∃ t, t = l.map (!·) := ⟨_, rfl⟩
  have HN := Lib.hid hn
  have HT := Lib.hid ht
  have HTL := Lib.hid (show tgt.length = n by rw [ht, hn]; simp)
  rw [← hn] at hlen ⊢
  rw [← ht]
  clear h hn ht hi0 hz0 hz1 hz2
  go_enter Tryz.func81, Tryz.ntmps81
  go_wp2_with (at_make; refine wpList_make_full _ rfl _ _ 39 rfl w.heap.size 4 i0 (.bool false) 1 Tryz.underlying39 HI.out HZ0.out HZ1.out .i64 .i64 (n : Int) (n : Int) n rfl rfl rfl rfl (by rw [HZ2.out]; omega) (by unfold maxLen; omega) (Nat.le_refl _) ?_)
  intro w1 ho1 hg1
  rw [made_one] at ho1
  have HB1 := Lib.hid ((Below.refl w.heap.size w).grown hg1 (Nat.le_refl _) (fun k hk => by cases hk))
  have HX1 := Lib.hid (FilR.start (tgt := tgt) (owns_full ho1) (Nat.le_refl _) HB1.out)
  clear ho1 hg1
  go_wp2
  go_loopw [11] (fun i wr => FilRel w.heap.size n tgt w i wr) (fun i _ => n - (intOf i).toNat)
  case atStart => exact ⟨0, rfl, Nat.zero_le _, HX1.out⟩
  case round =>
    obtain ⟨k, rfl, hk, hF⟩ := hrel
    by_cases hlt : k < n
    · have d1 : decide (k < n) = true := by simp; omega
      have kk : k < l.length := by rw [← HN.out]; exact hlt
      obtain ⟨g, o, rfl, c1⟩ := HL.out.below hF.blw k kk
      have HLL := Lib.hid HL
      clear HL
      obtain ⟨⟨b0, c2⟩, f2, g2⟩ := hF.cell hlt
      have HE := Lib.hid (show (!l[k]) = tgt.getD k false by rw [HT.out, List.getD_eq_getElem?_getD, List.getElem?_map, List.getElem?_eq_getElem kk]; rfl)
      generalize l[k] = b at *
      have HF := Lib.hid hF
      clear hF hk
      go_wp2_with fail
      go_roundw
      case rel => exact ⟨k + 1, by go_num, by omega, HF.out.step hlt HE.out⟩
      case measure => simp [intOf]; omega
    · have d1 : decide (k < n) = false := by simp; omega
      have hkn : k = n := by omega
      subst hkn
      have HF := Lib.hid hF
      clear hF hk
      go_wp2_with fail
      go_ret
      exact blp_ret (HF.out.done HTL.out) HTL.out HF.out.blw
end
section
open Go.RowKit

set_option maxHeartbeats 4000000 in
theorem both_any {A B : Option Addr} {l r : List Bool} {cap cap2 : Nat} (w : World) (h : BSl w A l) (hr : BSl w B r) (hlr : l.length = r.length) (hlen : l.length ≤ 1000000) : Calls Tryz.prog 84 #[.slice A l.length cap, .slice B r.length cap2] w (BLP (bothL l r) w) := by
  obtain ⟨i0, hi0, hz⟩ := Option.map_eq_some_iff.1 infoBo
  simp only [Prod.mk.injEq] at hz
  obtain ⟨hz0, hz1, hz2⟩ := hz
  have HI := Lib.hid hi0
  have HZ0 := Lib.hid hz0
  have HZ1 := Lib.hid hz1
  have HZ2 := Lib.hid hz2
  have HL := Lib.hid h
  have HR := Lib.hid hr
  rw [← hlr]
  obtain ⟨n, hn⟩ : ∃ n, n = l.length := ⟨_, rfl⟩
  obtain ⟨tgt, ht⟩ : ∃ t, t = bothL l r := ⟨_, rfl⟩
  have HN := Lib.hid hn
  have HN2 := Lib.hid (show n = r.length by rw [hn, hlr])
  have HT := Lib.hid ht
  have HTL := Lib.hid (show tgt.length = n by rw [ht, hn]; simp [bothL, hlr])
  rw [← hn] at hlen ⊢
  rw [← ht]
  clear h hr hn ht hlr hi0 hz0 hz1 hz2
  go_enter Tryz.func84, Tryz.ntmps84
  go_wp2_with (at_make; refine wpList_make_full _ rfl _ _ 39 rfl w.heap.size 4 i0 (.bool false) 1 Tryz.underlying39 HI.out HZ0.out HZ1.out .i64 .i64 (n : Int) (n : Int) n rfl rfl rfl rfl (by rw [HZ2.out]; omega) (by unfold maxLen; omega) (Nat.le_refl _) ?_)
  intro w1 ho1 hg1
  rw [made_one] at ho1
  have HB1 := Lib.hid ((Below.refl w.heap.size w).grown hg1 (Nat.le_refl _) (fun k hk => by cases hk))
  have HX1 := Lib.hid (FilR.start (tgt := tgt) (owns_full ho1) (Nat.le_refl _) HB1.out)
  clear ho1 hg1
  go_wp2
  go_loopw [12] (fun i wr => FilRel w.heap.size n tgt w i wr) (fun i _ => n - (intOf i).toNat)
  case atStart => exact ⟨0, rfl, Nat.zero_le _, HX1.out⟩
  case round =>
    obtain ⟨k, rfl, hk, hF⟩ := hrel
    by_cases hlt : k < n
    · have d1 : decide (k < n) = true := by simp; omega
      have kk : k < l.length := by rw [← HN.out]; exact hlt
      have kk2 : k < r.length := by rw [← HN2.out]; exact hlt
      obtain ⟨g, o, rfl, c1⟩ := HL.out.below hF.blw k kk
      obtain ⟨g', o', rfl, c1'⟩ := HR.out.below hF.blw k kk2
      have HLL := Lib.hid HL
      have HRR := Lib.hid HR
      clear HL HR
      obtain ⟨⟨b0, c2⟩, f2, g2⟩ := hF.cell hlt
      have HE := Lib.hid (show (l[k] && r[k]) = tgt.getD k false by rw [HT.out, bothL, List.getD_eq_getElem?_getD, List.getElem?_zipWith, List.getElem?_eq_getElem kk, List.getElem?_eq_getElem kk2]; rfl)
      generalize l[k] = b at *
      generalize r[k] = b2 at *
      have HF := Lib.hid hF
      clear hF hk
      cases b
      all_goals
        go_wp2_with fail
        go_roundw
        case rel => exact ⟨k + 1, by go_num, by omega, HF.out.step hlt (by simpa using HE.out)⟩
        case measure => simp [intOf]; omega
    · have d1 : decide (k < n) = false := by simp; omega
      have hkn : k = n := by omega
      subst hkn
      have HF := Lib.hid hF
      clear hF hk
      go_wp2_with fail
      go_ret
      exact blp_ret (HF.out.done HTL.out) HTL.out HF.out.blw
set_option maxHeartbeats 4000000 in
theorem either_any {A B : Option Addr} {l r : List Bool} {cap cap2 : Nat} (w : World) (h : BSl w A l) (hr : BSl w B r) (hlr : l.length = r.length) (hlen : l.length ≤ 1000000) : Calls Tryz.prog 83 #[.slice A l.length cap, .slice B r.length cap2] w (BLP (eithL l r) w) := by
  obtain ⟨i0, hi0, hz⟩ := Option.map_eq_some_iff.1 infoBo
  simp only [Prod.mk.injEq] at hz
  obtain ⟨hz0, hz1, hz2⟩ := hz
  have HI := Lib.hid hi0
  have HZ0 := Lib.hid hz0
  have HZ1 := Lib.hid hz1
  have HZ2 := Lib.hid hz2
  have HL := Lib.hid h
  have HR := Lib.hid hr
  rw [← hlr]
  obtain ⟨n, hn⟩ : ∃ n, n = l.length := ⟨_, rfl⟩
  obtain ⟨tgt, ht⟩ : ∃ t, t = eithL l r := ⟨_, rfl⟩
  have HN := Lib.hid hn
  have HN2 := Lib.hid (show n = r.length by rw [hn, hlr])
  have HT := Lib.hid ht
  have HTL := Lib.hid (show tgt.length = n by rw [ht, hn]; simp [eithL, hlr])
  rw [← hn] at hlen ⊢
  rw [← ht]
  clear h hr hn ht hlr hi0 hz0 hz1 hz2
  go_enter Tryz.func83, Tryz.ntmps83
  go_wp2_with (at_make; refine wpList_make_full _ rfl _ _ 39 rfl w.heap.size 4 i0 (.bool false) 1 Tryz.underlying39 HI.out HZ0.out HZ1.out .i64 .i64 (n : Int) (n : Int) n rfl rfl rfl rfl (by rw [HZ2.out]; omega) (by unfold maxLen; omega) (Nat.le_refl _) ?_)
  intro w1 ho1 hg1
  rw [made_one] at ho1
  have HB1 := Lib.hid ((Below.refl w.heap.size w).grown hg1 (Nat.le_refl _) (fun k hk => by cases hk))
  have HX1 := Lib.hid (FilR.start (tgt := tgt) (owns_full ho1) (Nat.le_refl _) HB1.out)
  clear ho1 hg1
  go_wp2
  go_loopw [12] (fun i wr => FilRel w.heap.size n tgt w i wr) (fun i _ => n - (intOf i).toNat)
  case atStart => exact ⟨0, rfl, Nat.zero_le _, HX1.out⟩
  case round =>
    obtain ⟨k, rfl, hk, hF⟩ := hrel
    by_cases hlt : k < n
    · have d1 : decide (k < n) = true := by simp; omega
      have kk : k < l.length := by rw [← HN.out]; exact hlt
      have kk2 : k < r.length := by rw [← HN2.out]; exact hlt
      obtain ⟨g, o, rfl, c1⟩ := HL.out.below hF.blw k kk
      obtain ⟨g', o', rfl, c1'⟩ := HR.out.below hF.blw k kk2
      have HLL := Lib.hid HL
      have HRR := Lib.hid HR
      clear HL HR
      obtain ⟨⟨b0, c2⟩, f2, g2⟩ := hF.cell hlt
      have HE := Lib.hid (show (l[k] || r[k]) = tgt.getD k false by rw [HT.out, eithL, List.getD_eq_getElem?_getD, List.getElem?_zipWith, List.getElem?_eq_getElem kk, List.getElem?_eq_getElem kk2]; rfl)
      generalize l[k] = b at *
      generalize r[k] = b2 at *
      have HF := Lib.hid hF
      clear hF hk
      cases b
      all_goals
        go_wp2_with fail
        go_roundw
        case rel => exact ⟨k + 1, by go_num, by omega, HF.out.step hlt (by simpa using HE.out)⟩
        case measure => simp [intOf]; omega
    · have d1 : decide (k < n) = false := by simp; omega
      have hkn : k = n := by omega
      subst hkn
      have HF := Lib.hid hF
      clear hF hk
      go_wp2_with fail
      go_ret
      exact blp_ret (HF.out.done HTL.out) HTL.out HF.out.blw
end
section
open Go.RowKit

/-- A list of truths that is being filled from the back: at and behind a place it is told. -/
structure BakR (g n : Nat) (tgt : List Bool) (j : Nat) (w0 wr : World) : Prop where
  cells : ∃ cur : List Bool, cur.length = n ∧ Bx wr g 4 (cur.map bv) ∧ ∀ i, j ≤ i → cur.getD i false = tgt.getD i false
  lo : w0.heap.size < g
  blw : Below w0.heap.size w0 wr
section
variable {g n j k : Nat} {tgt tgt' : List Bool} {w0 wr : World}
theorem BakR.start (h : Bx wr g 4 (List.replicate n (.bool false))) (h1 : w0.heap.size < g) (h2 : Below w0.heap.size w0 wr) (ht : tgt.length = n) : BakR g n tgt n w0 wr :=
  ⟨⟨List.replicate n false, List.length_replicate, by rw [List.map_replicate]; exact h, fun i hi => by rw [getD_ge (by simpa using hi), getD_ge (by omega)]⟩, h1, h2⟩
theorem BakR.again (h : BakR g n tgt j w0 wr) (ht : tgt'.length = n) : BakR g n tgt' n w0 wr := by
  obtain ⟨cur, h1, h2, _⟩ := h.cells
  exact ⟨⟨cur, h1, h2, fun i hi => by rw [getD_ge (by omega), getD_ge (by omega)]⟩, h.lo, h.blw⟩
theorem BakR.cell (h : BakR g n tgt j w0 wr) {i : Nat} (hi : i < n) : (∃ b, wr.cell? ⟨g, i, none⟩ = some (.bool b)) ∧ wr.frozen? ⟨g, i, none⟩ = false ∧ g < wr.heap.size := by
  obtain ⟨cur, h1, h2, _⟩ := h.cells
  refine ⟨⟨cur[i]'(by omega), ?_⟩, h2.frozen i, h2.lt⟩
  rw [h2.cell i, List.getElem?_map, List.getElem?_eq_getElem (by omega)]; rfl
theorem BakR.told (h : BakR g n tgt 0 w0 wr) {i : Nat} (hi : i < n) : wr.cell? ⟨g, i, none⟩ = some (.bool (tgt.getD i false)) := by
  obtain ⟨cur, h1, h2, h3⟩ := h.cells
  rw [← h3 i (Nat.zero_le _), ← bget (by omega), h2.cell i, List.getElem?_map, List.getElem?_eq_getElem (by omega)]; rfl
theorem BakR.step (h : BakR g n tgt (k + 1) w0 wr) (hk : k < n) {b : Bool} (hb : b = tgt.getD k false) : BakR g n tgt k w0 (wr.setCell ⟨g, k, none⟩ (.bool b)) := by
  obtain ⟨cur, h1, h2, h3⟩ := h.cells
  refine ⟨⟨cur.set k b, by rw [List.length_set]; exact h1, ?_, fun j hj => ?_⟩, h.lo, h.blw.setCell (by have := h.lo; show w0.heap.size ≤ g; omega) _⟩
  · have := h2.set k (.bool b)
    rwa [show (cur.map bv).set k (.bool b) = (cur.set k b).map bv by rw [List.map_set]; rfl] at this
  · rw [List.getD_eq_getElem?_getD, List.getElem?_set]
    by_cases e : k = j
    · subst e
      rw [if_pos rfl, if_pos (by omega)]; exact hb
    · rw [if_neg e, ← List.getD_eq_getElem?_getD]
      exact h3 j (by omega)
theorem BakR.done (h : BakR g n tgt 0 w0 wr) (hl : tgt.length = n) : BSl wr (some ⟨g, 0, none⟩) tgt := by
  obtain ⟨cur, h1, h2, h3⟩ := h.cells
  have : cur = tgt := by
    apply List.ext_getElem (by omega)
    intro i hi hi'
    have := h3 i (Nat.zero_le _)
    rw [List.getD_eq_getElem?_getD, List.getD_eq_getElem?_getD, List.getElem?_eq_getElem hi, List.getElem?_eq_getElem hi'] at this
    exact this
  subst this
  exact bsl_bx h2
end
theorem Bx.tri {w : World} {q : Nat} {t : TypeId} {a b c : Value} (h : Bx w q t [a, b, c]) : w.cell? ⟨q, 0, none⟩ = some a ∧ w.cell? ⟨q, 1, none⟩ = some b ∧ w.cell? ⟨q, 2, none⟩ = some c := ⟨h.cell 0, h.cell 1, h.cell 2⟩
/-- Between two rounds. -/
def UoRel (g n a : Nat) (l r : List Bool) (x : Bool) (bx : List Value) (w0 : World) (c f : Value) (wr : World) : Prop :=
  Bx wr w0.heap.size 83 bx ∧ ((c = .int .i64 0 ∧ f = .bool x ∧ BakR g n (swp l r x) n w0 wr) ∨
    (c = .int .i64 1 ∧ f = .bool ((swp l r x).getD a false) ∧ BakR g n (swp l r x) 0 w0 wr) ∨ (c = .int .i64 2 ∧ (∃ b, f = .bool b) ∧ BakR g n (untL a l r x) 0 w0 wr))
/-- Within a round. -/
def UiRel (g n : Nat) (l r : List Bool) (y : Bool) (bx : List Value) (w0 : World) (f i : Value) (wr : World) : Prop :=
  Bx wr w0.heap.size 83 bx ∧ ∃ j : Nat, i = .int .i64 ((j : Int) - 1) ∧ j ≤ n ∧ f = .bool ((swp l r y).getD j y) ∧ BakR g n (swp l r y) j w0 wr
theorem swp_y {l r : List Bool} {y : Bool} {k : Nat} (h : l.length = r.length) (hk : k < l.length) : (r[k]'(by omega) || l[k] && (swp l r y).getD (k + 1) y) = (swp l r y).getD k y := by
  have h1 : (swp l r y).getD k y = (swp l r y).getD k false := getD_lt (by rw [swp_len h]; exact hk)
  rw [h1, swp_now h hk, bget hk, bget (by omega)]
theorem ipred (k : Nat) : Value.int .i64 (((k + 1 : Nat) : Int) - 1) = .int .i64 (k : Int) := by rw [show (((k + 1 : Nat) : Int) - 1) = (k : Int) by omega]
theorem bx_setO {w : World} {q g i : Nat} {t : TypeId} {cs : List Value} (h : Bx w q t cs) (hg : q ≠ g) (u : Value) : Bx (w.setCell ⟨g, i, none⟩ u) q t cs := (Below.heap_setCell w ⟨g, i, none⟩ u q hg).trans h
set_option maxHeartbeats 8000000 in
theorem until_any {A B N P : Option Addr} {l r : List Bool} {cap cap2 nl nc pl pc a : Nat} {x : Bool} (w : World) (h : BSl w A l) (hr : BSl w B r) (hlr : l.length = r.length) (hlen : l.length ≤ 1000000) (ha : a < l.length) (hp : pl = l.length) :
    Calls Tryz.prog 85 #[.agg #[.slice N nl nc, .slice P pl pc, .int .i64 (a : Int)], .slice A l.length cap, .slice B r.length cap2, .bool x] w (BLP (untL a l r x) w) := by
  obtain ⟨i0, hi0, hz⟩ := Option.map_eq_some_iff.1 infoBo
  simp only [Prod.mk.injEq] at hz
  obtain ⟨hz0, hz1, hz2⟩ := hz
  have HI := Lib.hid hi0
  have HZ0 := Lib.hid hz0
  have HZ1 := Lib.hid hz1
  have HZ2 := Lib.hid hz2
  have HL := Lib.hid h
  have HR := Lib.hid hr
  have HLR := Lib.hid hlr
  subst hp
  rw [← hlr]
  obtain ⟨n, hn⟩ : ∃ n, n = l.length := ⟨_, rfl⟩
  have HN := Lib.hid hn
  have HN2 := Lib.hid (show n = r.length by rw [hn, hlr])
  have HS := Lib.hid (show ∀ y, (swp l r y).length = n from fun y => by rw [hn]; exact swp_len hlr)
  rw [← hn] at hlen ha ⊢
  clear h hr hn hlr hi0 hz0 hz1 hz2
  go_enter Tryz.func85, Tryz.ntmps85
  go_wp2_with (at_make; refine wpList_make_full _ rfl _ _ 39 rfl (w.heap.size + 1) 4 i0 (.bool false) 1 Tryz.underlying39 HI.out HZ0.out HZ1.out .i64 .i64 (n : Int) (n : Int) n rfl rfl rfl rfl (by rw [HZ2.out]; omega) (by unfold maxLen; omega) (by simp) ?_)
  intro w1 ho1 hg1
  rw [made_one] at ho1
  have HB1 := Lib.hid ((below_alloc w (.cells #[.slice N nl nc, .slice P n pc, .int .i64 (a : Int)] 83)).grown hg1 (by simp) (fun k hk => by cases hk))
  have HP1 := Lib.hid (show Bx w1 w.heap.size 83 [.slice N nl nc, .slice P n pc, .int .i64 (a : Int)] from (hg1.block w.heap.size (by simp) (by intro e; cases e)).trans (Bx.new w 83 _))
  have HX1 := Lib.hid (BakR.start (tgt := swp l r x) (owns_full ho1) (Nat.lt_succ_self _) HB1.out (HS.out x))
  clear ho1 hg1
  go_wp2
  go_loopw [17, 10] (fun c f wr => UoRel (w.heap.size + 1) n a l r x [.slice N nl nc, .slice P n pc, .int .i64 (a : Int)] w c f wr) (fun c _ _ => (2 - (intOf c)).toNat)
  case atStart => exact ⟨HP1.out, .inl ⟨rfl, rfl, HX1.out⟩⟩
  case round =>
    obtain ⟨hP, hrel⟩ := hrel
    rcases hrel with ⟨rfl, rfl, hk⟩ | ⟨rfl, rfl, hk⟩ | ⟨rfl, ⟨f0, rfl⟩, hk⟩
    · have HP := Lib.hid hP
      have hzb := hP.lt
      clear hP
      obtain ⟨y, hy⟩ : ∃ y, y = x := ⟨_, rfl⟩
      have HY := Lib.hid hy
      have HK := Lib.hid (show BakR (w.heap.size + 1) n (swp l r y) n w wr from by rw [hy]; exact hk)
      rw [← hy]
      clear hk hy
      go_wp2_with fail
      go_loopw [10, 11] (fun f i wr => UiRel (w.heap.size + 1) n l r y [.slice N nl nc, .slice P n pc, .int .i64 (a : Int)] w f i wr) (fun _ i _ => (intOf i + 1).toNat)
      case atStart => exact ⟨HP.out, n, by go_num, Nat.le_refl _, by rw [getD_ge (by rw [HS.out]; exact Nat.le_refl _)], HK.out⟩
      case round =>
        obtain ⟨hP2, j, hj, hjn, rfl, hF⟩ := hrel
        have HP2 := Lib.hid hP2
        have HF := Lib.hid hF
        have hzg := hF.lo
        have hzb2 := hP2.lt
        clear hP2 hF
        cases j with
        | zero =>
          obtain rfl : _ = Value.int .i64 (-1) := hj
          obtain ⟨-, -, b2⟩ := HP2.out.tri
          have b3 := HF.out.told ha
          obtain ⟨-, -, g2⟩ := HF.out.cell ha
          have HG := Lib.hid HF
          clear hjn
          go_wp2_with fail
          go_roundw
          case rel => exact ⟨HP2.out, .inr (.inl ⟨by go_num, by rw [List.getD_eq_getElem?_getD], HF.out⟩)⟩
          case measure => simp [intOf]
        | succ k =>
          replace hj := hj.trans (ipred k)
          subst hj
          have kk : k < l.length := by rw [← HN.out]; omega
          have kk2 : k < r.length := by rw [← HN2.out]; omega
          obtain ⟨g, o, rfl, c1⟩ := HL.out.below HF.out.blw k kk
          obtain ⟨g', o', rfl, c1'⟩ := HR.out.below HF.out.blw k kk2
          have HLL := Lib.hid HL
          have HRR := Lib.hid HR
          clear HL HR
          have hkn : k < n := by omega
          obtain ⟨⟨b0, c2⟩, f2, g2⟩ := HF.out.cell hkn
          have HE := Lib.hid (swp_y (y := y) HLR.out kk)
          obtain ⟨b, hb⟩ : ∃ b, b = l[k] := ⟨_, rfl⟩
          obtain ⟨b2, hb2⟩ : ∃ b2, b2 = r[k] := ⟨_, rfl⟩
          obtain ⟨f1, hf1⟩ : ∃ f1, f1 = (swp l r y).getD (k + 1) y := ⟨_, rfl⟩
          rw [← hb] at c1
          rw [← hb2] at c1'
          rw [← hf1]
          have HV := Lib.hid (show (b2 || b && f1) = (swp l r y).getD k y by rw [hb, hb2, hf1]; exact HE.out)
          clear hb hb2 hf1 HE
          cases b2 <;> cases b
          all_goals
            go_wp2_with fail
            go_roundw
            case rel => exact ⟨bx_setO HP2.out (by omega) _, k, by go_num, by omega, by rw [← HV.out]; rfl, HF.out.step hkn (by rw [getD_lt (y := y) (by rw [HS.out]; exact hkn)]; simpa using HV.out)⟩
            case measure => simp [intOf]
    · have HP := Lib.hid hP
      have hzb := hP.lt
      clear hP
      obtain ⟨y, hy⟩ : ∃ y, y = (swp l r x).getD a false := ⟨_, rfl⟩
      have HY := Lib.hid hy
      have HK := Lib.hid (show BakR (w.heap.size + 1) n (swp l r y) n w wr from hk.again (HS.out y))
      rw [← hy]
      clear hk hy
      go_wp2_with fail
      go_loopw [10, 11] (fun f i wr => UiRel (w.heap.size + 1) n l r y [.slice N nl nc, .slice P n pc, .int .i64 (a : Int)] w f i wr) (fun _ i _ => (intOf i + 1).toNat)
      case atStart => exact ⟨HP.out, n, by go_num, Nat.le_refl _, by rw [getD_ge (by rw [HS.out]; exact Nat.le_refl _)], HK.out⟩
      case round =>
        obtain ⟨hP2, j, hj, hjn, rfl, hF⟩ := hrel
        have HP2 := Lib.hid hP2
        have HF := Lib.hid hF
        have hzg := hF.lo
        have hzb2 := hP2.lt
        clear hP2 hF
        cases j with
        | zero =>
          obtain rfl : _ = Value.int .i64 (-1) := hj
          obtain ⟨-, -, b2⟩ := HP2.out.tri
          have b3 := HF.out.told ha
          obtain ⟨-, -, g2⟩ := HF.out.cell ha
          have HG := Lib.hid HF
          clear hjn
          go_wp2_with fail
          go_roundw
          case rel => exact ⟨HP2.out, .inr (.inr ⟨by go_num, ⟨_, rfl⟩, by rw [untL, ← HY.out]; exact HF.out⟩)⟩
          case measure => simp [intOf]
        | succ k =>
          replace hj := hj.trans (ipred k)
          subst hj
          have kk : k < l.length := by rw [← HN.out]; omega
          have kk2 : k < r.length := by rw [← HN2.out]; omega
          obtain ⟨g, o, rfl, c1⟩ := HL.out.below HF.out.blw k kk
          obtain ⟨g', o', rfl, c1'⟩ := HR.out.below HF.out.blw k kk2
          have HLL := Lib.hid HL
          have HRR := Lib.hid HR
          clear HL HR
          have hkn : k < n := by omega
          obtain ⟨⟨b0, c2⟩, f2, g2⟩ := HF.out.cell hkn
          have HE := Lib.hid (swp_y (y := y) HLR.out kk)
          obtain ⟨b, hb⟩ : ∃ b, b = l[k] := ⟨_, rfl⟩
          obtain ⟨b2, hb2⟩ : ∃ b2, b2 = r[k] := ⟨_, rfl⟩
          obtain ⟨f1, hf1⟩ : ∃ f1, f1 = (swp l r y).getD (k + 1) y := ⟨_, rfl⟩
          rw [← hb] at c1
          rw [← hb2] at c1'
          rw [← hf1]
          have HV := Lib.hid (show (b2 || b && f1) = (swp l r y).getD k y by rw [hb, hb2, hf1]; exact HE.out)
          clear hb hb2 hf1 HE
          cases b2 <;> cases b
          all_goals
            go_wp2_with fail
            go_roundw
            case rel => exact ⟨bx_setO HP2.out (by omega) _, k, by go_num, by omega, by rw [← HV.out]; rfl, HF.out.step hkn (by rw [getD_lt (y := y) (by rw [HS.out]; exact hkn)]; simpa using HV.out)⟩
            case measure => simp [intOf]
    · have HK := Lib.hid hk
      clear hk
      go_wp2_with fail
      go_ret
      exact blp_ret (HK.out.done (by rw [untL]; exact HS.out _)) (by rw [untL]; exact HS.out _) HK.out.blw
end
end Go.Proofs.YtmgjpjjglghbaaaGreatDoor
