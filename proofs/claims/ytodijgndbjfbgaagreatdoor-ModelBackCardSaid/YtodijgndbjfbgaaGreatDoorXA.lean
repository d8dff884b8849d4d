/-
  An expression's fields and kids; Same, walked. The signs ahead of an expression's kids, and how loose a kid may be: walked. A text that grows: strings, bytes and numbers appended; where the new row lies.
-/
import Derived.Test.YtodijgndbjfbgaaGreatDoorWA
import Derived.Deep.LoopGhost
import Derived.IntWalk
import Derived.Test.YtodijgndbjfbgaaGreatDoorH2
import Derived.Lib.AppendStr
import Derived.Lib.AppendIntMem
import Derived.Deep.AppendLies
namespace Go.Proofs.YtodijgndbjfbgaaGreatDoor
section
open Go.RowKit

def Ex.kids : Ex → List Ex
  | .leaf _ _ _ _ => []
  | .un _ a _ => [a]
  | .bin _ a b _ => [a, b]
  | .cond a b c _ => [a, b, c]
def Ex.nm : Ex → List UInt8
  | .leaf _ nm _ _ => nm
  | _ => []
def Ex.num : Ex → Nat
  | .leaf _ _ n _ => n
  | _ => 0
/-- A slice's cells read as expressions. -/
def KR (w : World) (e : TypeId) (S : Nat → Prop) (A : Option Addr) (ks : List Ex) : Prop :=
  ∀ i (h : i < ks.length), ∃ g o nm n B l cap p, A = some ⟨g, 0, none⟩ ∧ g < w.heap.size ∧ HS w e S ks[i] (exC o nm n B l cap p) ∧ w.cell? ⟨g, i * 5, none⟩ = some (.string o) ∧ w.cell? ⟨g, i * 5 + 1, none⟩ = some (.string nm) ∧ w.cell? ⟨g, i * 5 + 2, none⟩ = some (.int .i64 n) ∧ w.cell? ⟨g, i * 5 + 3, none⟩ = some (.slice B l cap) ∧ w.cell? ⟨g, i * 5 + 4, none⟩ = some (.int .i64 p)
section
variable {w w' : World} {e : TypeId} {S : Nat → Prop}
theorem kr_one {g : Nat} {xs : List Value} (h : Arr w e S g xs) {k : Ex} {c : List Value} {i : Nat} (hk : HS w e S k c) (hx : ∀ j, j < 5 → xs[i * 5 + j]? = c[j]?) : ∃ g' o nm n B l cap p, (some ⟨g, 0, none⟩ : Option Addr) = some ⟨g', 0, none⟩ ∧ g' < w.heap.size ∧ HS w e S k (exC o nm n B l cap p) ∧ w.cell? ⟨g', i * 5, none⟩ = some (.string o) ∧ w.cell? ⟨g', i * 5 + 1, none⟩ = some (.string nm) ∧ w.cell? ⟨g', i * 5 + 2, none⟩ = some (.int .i64 n) ∧ w.cell? ⟨g', i * 5 + 3, none⟩ = some (.slice B l cap) ∧ w.cell? ⟨g', i * 5 + 4, none⟩ = some (.int .i64 p) := by
  obtain ⟨nm, n, B, l, cap, rfl⟩ := hk.form
  have hl : g < w.heap.size := by obtain ⟨_, cs, h3, _⟩ := h; exact blk_lt h3
  exact ⟨g, _, nm, n, B, l, cap, _, rfl, hl, hk, h.cell ((hx 0 (by omega)).trans rfl), h.cell ((hx 1 (by omega)).trans rfl), h.cell ((hx 2 (by omega)).trans rfl), h.cell ((hx 3 (by omega)).trans rfl), h.cell ((hx 4 (by omega)).trans rfl)⟩
theorem HS.len5 {x : Ex} {c : List Value} (h : HS w e S x c) : c.length = 5 := by
  obtain ⟨_, _, _, _, _, rfl⟩ := h.form; rfl
theorem app_at {a b : List Value} (ha : a.length = 5) (j : Nat) : (a ++ b)[5 + j]? = b[j]? := by
  rw [List.getElem?_append_right (by omega), ha]; congr 1; omega
theorem HS.view : ∀ {x : Ex} {c : List Value}, HS w e S x c → ∃ A cap, c = exC ⟨x.op.toArray⟩ ⟨x.nm.toArray⟩ (x.num : Int) A x.kids.length cap (x.pos : Int) ∧ KR w e S A x.kids
  | .leaf _ _ _ _, _, h => ⟨none, 0, h, fun i hi => absurd hi (by simp [Ex.kids])⟩
  | .un _ a _, _, ⟨g, cap, ca, h1, h2, h3⟩ => by
    refine ⟨_, cap, h1, fun i hi => ?_⟩
    match i, hi with
    | 0, _ => exact kr_one h2 h3 (fun j hj => by simp)
  | .bin _ a b _, _, ⟨g, cap, ca, cb, h1, h2, h3, h4⟩ => by
    have l1 := h3.len5
    refine ⟨_, cap, h1, fun i hi => ?_⟩
    match i, hi with
    | 0, _ => exact kr_one h2 h3 (fun j hj => by rw [Nat.zero_mul, Nat.zero_add, List.getElem?_append_left (by omega)])
    | 1, _ => exact kr_one h2 h4 (fun j hj => by rw [Nat.one_mul, app_at l1])
  | .cond a b d _, _, ⟨g, cap, ca, cb, cd, h1, h2, h3, h4, h5⟩ => by
    have l1 := h3.len5
    have l2 := h4.len5
    refine ⟨_, cap, h1, fun i hi => ?_⟩
    match i, hi with
    | 0, _ => exact kr_one h2 h3 (fun j hj => by rw [Nat.zero_mul, Nat.zero_add, List.getElem?_append_left (by omega)])
    | 1, _ => exact kr_one h2 h4 (fun j hj => by rw [Nat.one_mul, app_at l1, List.getElem?_append_left (by omega)])
    | 2, _ => exact kr_one h2 h5 (fun j hj => by rw [show 2 * 5 + j = 5 + (5 + j) by omega, app_at l1, app_at l2])
theorem KR.below {A : Option Addr} {ks : List Ex} (h : KR w e S A ks) (hb : Below w.heap.size w w') : KR w' e S A ks := by
  intro i hi
  obtain ⟨g, o, nm, n, B, l, cap, p, h1, h2, h3, c0, c1, c2, c3, c4⟩ := h i hi
  exact ⟨g, o, nm, n, B, l, cap, p, h1, by have := hb.size; omega, h3.below hb, (hb.cell (p := ⟨g, i * 5, none⟩) h2).trans c0, (hb.cell (p := ⟨g, i * 5 + 1, none⟩) h2).trans c1, (hb.cell (p := ⟨g, i * 5 + 2, none⟩) h2).trans c2, (hb.cell (p := ⟨g, i * 5 + 3, none⟩) h2).trans c3, (hb.cell (p := ⟨g, i * 5 + 4, none⟩) h2).trans c4⟩
end
theorem bare_eq (a b : Ex) : a.bare = b.bare ↔ a.op = b.op ∧ a.nm = b.nm ∧ a.num = b.num ∧ a.kids.map Ex.bare = b.kids.map Ex.bare := by
  cases a <;> cases b <;> simp [Ex.bare, Ex.op, Ex.nm, Ex.num, Ex.kids]
theorem ret_bool {a b : Bool} (h : a = b) : Ending.returned (.bool a) = .returned (.bool b) := by rw [h]
def SameP (v : Bool) (w : World) (e : Ending) (w' : World) : Prop := e = .returned (.bool v) ∧ Below w.heap.size w w'
def EqRel (ka kb : List Ex) (w : World) (i : Value) (wr : World) : Prop := ∃ k : Nat, i = .int .i64 (k : Int) ∧ k ≤ ka.length ∧ (ka.take k).map Ex.bare = (kb.take k).map Ex.bare ∧ Below w.heap.size w wr
theorem take_moreX {ka kb : List Ex} {k : Nat} (h1 : k < ka.length) (h2 : k < kb.length) (h : (ka.take k).map Ex.bare = (kb.take k).map Ex.bare) (he : ka[k].bare = kb[k].bare) : (ka.take (k + 1)).map Ex.bare = (kb.take (k + 1)).map Ex.bare := by
  rw [List.take_succ_eq_append_getElem h1, List.take_succ_eq_append_getElem h2, List.map_append, List.map_append, h]
  simp [he]
theorem map_ne {ka kb : List Ex} {k : Nat} (h1 : k < ka.length) (h2 : k < kb.length) (he : ka[k].bare ≠ kb[k].bare) : ka.map Ex.bare ≠ kb.map Ex.bare := by
  intro h
  apply he
  have e : (ka.map Ex.bare)[k]? = (kb.map Ex.bare)[k]? := by rw [h]
  simpa [h1, h2] using e
theorem kids_three (x : Ex) : x.kids.length ≤ 3 := by cases x <;> simp [Ex.kids]
theorem bytes_eqX (a b : List UInt8) : ((⟨a.toArray⟩ : ByteArray).toList == (⟨b.toArray⟩ : ByteArray).toList) = decide (a = b) := by
  rw [ByteArray.toList_eq, ByteArray.toList_eq]
  simp [Bool.beq_eq_decide_eq]
end
section
open Go.RowKit

theorem rk_le (x : List UInt8) : rk x ≤ 9 := by
  unfold rk
  repeat' split
  all_goals omega
def LoP (k : Nat) (w : World) (e : Ending) (w' : World) : Prop := e = .returned (.int .i64 (k : Int)) ∧ w = w'
theorem loosest_any (s : ByteArray) (p : Nat) (hp : p ≤ 2) (w : World) : Calls Tryz.prog 138 #[.string s, .int .i64 (p : Int)] w (LoP (lo (rk s.data.toList) p) w) := by
  have hr := rk_le s.data.toList
  have H := Lib.hid (fun W : World => rankof_any s W)
  unfold RkP at H
  generalize rk s.data.toList = r at *
  by_cases h4 : r = 4
  · subst h4
    have HK := Lib.hid (show (4 : Int) = (lo 4 p : Int) by simp [lo])
    clear hr
    go_enter Tryz.func138, Tryz.ntmps138
    go_wp2_with fail
    with_reducible refine (H.out _).mono ?_
    rintro e w' ⟨rfl, rfl⟩
    go_wp2
    go_ret
    exact ⟨ret_int (HK.out), rfl⟩
  by_cases h8 : r = 8
  · subst h8
    have HK := Lib.hid (show (8 : Int) = (lo 8 p : Int) by simp [lo])
    clear hr
    go_enter Tryz.func138, Tryz.ntmps138
    go_wp2_with fail
    with_reducible refine (H.out _).mono ?_
    rintro e w' ⟨rfl, rfl⟩
    go_wp2
    go_ret
    exact ⟨ret_int (HK.out), rfl⟩
  by_cases h5 : r = 5
  · subst h5
    have HK := Lib.hid (show (6 : Int) = (lo 5 p : Int) by simp [lo])
    clear hr
    go_enter Tryz.func138, Tryz.ntmps138
    go_wp2_with fail
    with_reducible refine (H.out _).mono ?_
    rintro e w' ⟨rfl, rfl⟩
    go_wp2
    go_ret
    exact ⟨ret_int (HK.out), rfl⟩
  by_cases h0 : r = 0
  · subst h0
    clear hr
    by_cases p0 : p = 0
    · subst p0
      clear hp
      go_enter Tryz.func138, Tryz.ntmps138
      go_wp2_with fail
      with_reducible refine (H.out _).mono ?_
      rintro e w' ⟨rfl, rfl⟩
      go_wp2
      go_ret
      exact ⟨ret_int (rfl), rfl⟩
    by_cases p1 : p = 1
    · subst p1
      clear hp
      go_enter Tryz.func138, Tryz.ntmps138
      go_wp2_with fail
      with_reducible refine (H.out _).mono ?_
      rintro e w' ⟨rfl, rfl⟩
      go_wp2
      go_ret
      exact ⟨ret_int (rfl), rfl⟩
    obtain rfl : p = 2 := by omega
    clear hp p0 p1
    go_enter Tryz.func138, Tryz.ntmps138
    go_wp2_with fail
    with_reducible refine (H.out _).mono ?_
    rintro e w' ⟨rfl, rfl⟩
    go_wp2
    go_ret
    exact ⟨ret_int (rfl), rfl⟩
  by_cases h1 : r = 1
  · subst h1
    clear hr
    by_cases p0 : p = 0
    · subst p0
      clear hp
      go_enter Tryz.func138, Tryz.ntmps138
      go_wp2_with fail
      with_reducible refine (H.out _).mono ?_
      rintro e w' ⟨rfl, rfl⟩
      go_wp2
      go_ret
      exact ⟨ret_int (rfl), rfl⟩
    by_cases p1 : p = 1
    · subst p1
      clear hp
      go_enter Tryz.func138, Tryz.ntmps138
      go_wp2_with fail
      with_reducible refine (H.out _).mono ?_
      rintro e w' ⟨rfl, rfl⟩
      go_wp2
      go_ret
      exact ⟨ret_int (rfl), rfl⟩
    obtain rfl : p = 2 := by omega
    clear hp p0 p1
    go_enter Tryz.func138, Tryz.ntmps138
    go_wp2_with fail
    with_reducible refine (H.out _).mono ?_
    rintro e w' ⟨rfl, rfl⟩
    go_wp2
    go_ret
    exact ⟨ret_int (rfl), rfl⟩
  have HK := Lib.hid (show ((r : Int) + (p : Int)) = (lo r p : Int) by simp [lo, h4, h8, h5, h0, h1])
  have q4 : ((r : Int) == 4) = false := by rw [beq_eq_false_iff_ne]; omega
  have q8 : ((r : Int) == 8) = false := by rw [beq_eq_false_iff_ne]; omega
  have q5 : ((r : Int) == 5) = false := by rw [beq_eq_false_iff_ne]; omega
  have q0 : ((r : Int) == 0) = false := by rw [beq_eq_false_iff_ne]; omega
  have q1 : ((r : Int) == 1) = false := by rw [beq_eq_false_iff_ne]; omega
  clear h4 h8 h5 h0 h1
  go_enter Tryz.func138, Tryz.ntmps138
  go_wp2_with fail
  with_reducible refine (H.out _).mono ?_
  rintro e w' ⟨rfl, rfl⟩
  go_wp2
  go_ret
  exact ⟨ret_int (HK.out), rfl⟩

def sgnsX (op : List UInt8) : List (List UInt8) := if rk op = 0 then [[], [32, 63, 32], [32, 58, 32]] else if rk op = 4 then [[33]] else if rk op = 8 then [[45]] else [[], 32 :: op ++ [32]]
def SgP (l : List (List UInt8)) (w : World) (e : Ending) (w' : World) : Prop := ∃ g, e = .returned (.slice (some ⟨g, 0, none⟩) l.length l.length) ∧ w.heap.size ≤ g ∧ w'.heap[g]? = some (.cells (l.map strV).toArray 9 (0, 0)) ∧ Below w.heap.size w w'
theorem signs_any (s : ByteArray) (hs : s.size ≤ 65536) (w : World) : Calls Tryz.prog 136 #[.string s] w (SgP (sgnsX s.data.toList) w) := by
  have H := Lib.hid (fun W : World => rankof_any s W)
  unfold RkP at H
  by_cases h0 : rk s.data.toList = 0
  · have e : sgnsX s.data.toList = [[], [32, 63, 32], [32, 58, 32]] := by simp [sgnsX, h0]
    rw [e]
    rw [h0] at H
    clear e h0
    go_enter Tryz.func136, Tryz.ntmps136
    go_wp2_with fail
    with_reducible refine (H.out _).mono ?_
    rintro e w' ⟨rfl, rfl⟩
    go_wp2
    go_ret
    exact ⟨w.heap.size, rfl, Nat.le_refl _, heap_alloc_new w _, (Below.refl _ _).alloc (Nat.le_refl _) _⟩
  by_cases h4 : rk s.data.toList = 4
  · have e : sgnsX s.data.toList = [[33]] := by simp [sgnsX, h4]
    rw [e]
    rw [h4] at H
    clear e h4 h0
    go_enter Tryz.func136, Tryz.ntmps136
    go_wp2_with fail
    with_reducible refine (H.out _).mono ?_
    rintro e w' ⟨rfl, rfl⟩
    go_wp2
    go_ret
    exact ⟨w.heap.size, rfl, Nat.le_refl _, heap_alloc_new w _, (Below.refl _ _).alloc (Nat.le_refl _) _⟩
  by_cases h8 : rk s.data.toList = 8
  · have e : sgnsX s.data.toList = [[45]] := by simp [sgnsX, h8]
    rw [e]
    rw [h8] at H
    clear e h8 h0 h4
    go_enter Tryz.func136, Tryz.ntmps136
    go_wp2_with fail
    with_reducible refine (H.out _).mono ?_
    rintro e w' ⟨rfl, rfl⟩
    go_wp2
    go_ret
    exact ⟨w.heap.size, rfl, Nat.le_refl _, heap_alloc_new w _, (Below.refl _ _).alloc (Nat.le_refl _) _⟩
  have e : sgnsX s.data.toList = [[], 32 :: s.data.toList ++ [32]] := by simp [sgnsX, h0, h4, h8]
  rw [e]
  have HV := Lib.hid (show Value.string (⟨#[32]⟩ ++ s ++ ⟨#[32]⟩) = strV (32 :: (s.data.toList ++ [32])) from strV_eq (by simp))
  clear e
  generalize rk s.data.toList = r at *
  have q0 : ((r : Int) == 0) = false := by rw [beq_eq_false_iff_ne]; omega
  have q4 : ((r : Int) == 4) = false := by rw [beq_eq_false_iff_ne]; omega
  have q8 : ((r : Int) == 8) = false := by rw [beq_eq_false_iff_ne]; omega
  clear h0 h4 h8
  go_enter Tryz.func136, Tryz.ntmps136
  go_wp2_with fail
  with_reducible refine (H.out _).mono ?_
  rintro e w' ⟨rfl, rfl⟩
  go_wp2
  go_ret
  refine ⟨w.heap.size, rfl, Nat.le_refl _, ?_, (Below.refl _ _).alloc (Nat.le_refl _) _⟩
  rw [List.map_cons, List.map_cons, ← HV.out]
  exact heap_alloc_new w _
end
section
open Go.RowKit Go.Sort

/-- A text of the call's own. -/
structure Txt (B : Nat) (w : World) (v : Value) (l : List UInt8) : Prop where
  own : w.ownsRow B 5 1 v l.length (Lib.byteCells l)
  low : B ≤ w.heap.size
/-- Where the new row lies. -/
def Lies (w : World) (v v' : Value) : Prop := v'.ownBlock = v.ownBlock ∨ ∃ g, v'.ownBlock = some g ∧ w.heap.size ≤ g
def Tabs (w : World) : Prop := Lib.TabIs Tryz.prog w "internal/strconv.uint64pow10" .u64 Lib.pow10Tab
/-- What is told: the text, more of it behind; nothing else has changed. -/
def TellP (B : Nat) (l t : List UInt8) (w : World) (v : Value) (e : Ending) (w' : World) : Prop := ∃ v', e = .returned v' ∧ Txt B w' v' (l ++ t) ∧ w.grownBy w' v.ownBlock ∧ Lies w v v'
section
variable {B : Nat} {w w1 w2 : World} {v v1 v2 : Value} {l : List UInt8}
theorem grow_refl (w : World) (r : Option Nat) : w.grownBy w r := ⟨rfl, rfl, rfl, Nat.le_refl _, fun _ _ _ => rfl⟩
theorem Lies.refl (w : World) (v : Value) : Lies w v v := .inl rfl
theorem Lies.trans (h1 : Lies w v v1) (hz : w.heap.size ≤ w1.heap.size) (h2 : Lies w1 v1 v2) : Lies w v v2 := by
  rcases h2 with h2 | ⟨g, h2, h3⟩
  · rcases h1 with h1 | ⟨g, h1, h4⟩
    · exact .inl (h2.trans h1)
    · exact .inr ⟨g, h2.trans h1, h4⟩
  · exact .inr ⟨g, h2, by omega⟩
theorem grow_trans (h1 : w.grownBy w1 v.ownBlock) (hl : Lies w v v1) (h2 : w1.grownBy w2 v1.ownBlock) : w.grownBy w2 v.ownBlock := by
  refine ⟨h2.os.trans h1.os, h2.tape.trans h1.tape, h2.output.trans h1.output, Nat.le_trans h1.size h2.size, fun k hk hn => ?_⟩
  refine (h2.block k (by have := h1.size; omega) ?_).trans (h1.block k hk hn)
  intro e
  rcases hl with hl | ⟨g, hl, hg⟩
  · exact hn (e.trans hl)
  · rw [hl] at e
    injection e with e
    omega
theorem grow_below (h : Below w.heap.size w w1) (r : Option Nat) : w.grownBy w1 r := ⟨h.os, h.tape, h.output, h.size, fun i hi _ => h.block i hi⟩
theorem Txt.below (h : Txt B w v l) (hb : Below w.heap.size w w1) : Txt B w1 v l := ⟨owns_below h.own hb, Nat.le_trans h.low hb.size⟩
theorem Txt.bel (h : Txt B w v l) (hg : w.grownBy w1 v.ownBlock) : Below B w w1 :=
  (Below.refl B w).grown hg h.low (fun k hk => (h.own.lt k hk).1)
/-- A block of another kind is none of the text's. -/
theorem Txt.other (h : Txt B w v l) {k : Nat} {cs : Array Value} {e : TypeId} (hk : w.heap[k]? = some (.cells cs e (0, 0))) (he : e ≠ 5) : some k ≠ v.ownBlock := by
  intro e1
  rcases h.own.2 with ⟨rfl, _⟩ | ⟨g, cap, cur, rfl, _, hh, _⟩
  · cases e1
  · have : k = g := by simpa [Value.ownBlock] using e1
    subst this
    rw [hk] at hh
    injection hh with hh
    injection hh with _ hh
    exact he hh
theorem Txt.keep (h : Txt B w v l) (hg : w.grownBy w1 v.ownBlock) {k : Nat} {cs : Array Value} {e : TypeId} (hk : w.heap[k]? = some (.cells cs e (0, 0))) (he : e ≠ 5) : w1.heap[k]? = some (.cells cs e (0, 0)) :=
  (hg.block k (blk_lt hk) (h.other hk he)).trans hk
theorem tabs_on (ht : Tabs w) (hg : Below w.heap.size w w1) : Tabs w1 := Lib.tabBelow_of_tabIs ht w1 hg
end
theorem infoB : (Tryz.prog.info? 5).map (fun i => (i.zero, i.size, i.bytes)) = some (some (.int .u8 0), 1, 1) := by kernel_rfl
theorem str_bytes (s : ByteArray) : Lib.strCells s = Lib.byteCells s.data.toList := rfl
theorem run_str_at {B : Nat} {w : World} {v : Value} {l : List UInt8} (h : Txt B w v l) (s : ByteArray) (hb : l.length + s.size ≤ 1000000000) (ty : TypeId) :
    ∃ v' w', (Builtin.append_ #[150, 9] ty #[v, .string s]).run Tryz.prog w = .ok v' w' ∧ Txt B w' v' (l ++ s.data.toList) ∧ w.grownBy w' v.ownBlock ∧ Lies w v v' := by
  obtain ⟨i0, hi0, hz⟩ := Option.map_eq_some_iff.1 infoB
  simp only [Prod.mk.injEq] at hz
  obtain ⟨hz0, hz1, hz2⟩ := hz
  obtain ⟨v', w', hr, ho, hg, h4⟩ := Lib.run_append_own_string (P := Tryz.prog) w B 150 9 ty 5 i0 Tryz.underlying150 Tryz.underlying9 hi0 hz0 hz1 hz2 v l.length _ h.own s (by unfold maxLen; omega) (by omega) h.low
  refine ⟨v', w', hr, ⟨?_, Nat.le_trans h.low hg.size⟩, hg, ?_⟩
  · have e1 : (l ++ s.data.toList).length = l.length + s.size := by simp
    have e2 : Lib.byteCells (l ++ s.data.toList) = Lib.byteCells l ++ Lib.strCells s := by simp [Lib.byteCells, Lib.strCells]
    rw [e1, e2]
    exact ho
  · rcases h.own.2 with ⟨rfl, h0⟩ | ⟨g, cap, cur, rfl, hbg, hgg, hnc, hcm, hcs, htake⟩
    · by_cases hm : s.size = 0
      · rw [h4.2 ⟨rfl, hm⟩]; exact .inl rfl
      · have hr2 := run_append_nil_string (P := Tryz.prog) w 150 9 ty 5 i0 (.int .u8 0) Tryz.underlying150 Tryz.underlying9 hi0 hz0 s (by omega) (by omega) (by rw [hz2]; omega)
        rw [hr] at hr2
        injection hr2 with e1 _
        subst e1
        exact .inr ⟨w.heap.size, rfl, Nat.le_refl _⟩
    · by_cases hroom : l.length + s.size ≤ cap
      · have hr2 := Lib.run_append_room_string (P := Tryz.prog) w 150 9 ty 5 i0 Tryz.underlying150 Tryz.underlying9 hi0 hz1 g l.length cap cur hgg s hroom (by simp only [Nat.mul_one] at hcs; omega)
        rw [hr] at hr2
        injection hr2 with e1 _
        subst e1
        exact .inl rfl
      · have hr2 := Lib.run_append_grow_string (P := Tryz.prog) w 150 9 ty 5 i0 (.int .u8 0) Tryz.underlying150 Tryz.underlying9 hi0 hz0 ⟨g, 0, none⟩ l.length cap (Lib.byteCells l) (by rw [hz1, Lib.byteCells_length, Nat.mul_one]) (h.own.cells (g := g) rfl) s (by omega) (by omega) (by rw [hz2]; exact growslice_fits (by omega) (by omega))
        rw [hr] at hr2
        injection hr2 with e1 _
        subst e1
        exact .inr ⟨w.heap.size, rfl, Nat.le_refl _⟩
/-- A string appended, for the walk. -/
theorem wpList_str {ops : Array Oper} {rest : List Oper} {o : Oper} {a : Act} {Q : Exit → Act → World → Prop} (w : World) (hgd : o.guard = none) (sl x : Operand)
    (ho : o.op = .call { callee := .builtin .append, args := #[sl, x], argTypes := #[150, 9] }) {B : Nat} {v : Value} {l : List UInt8} (hs : a.eval sl = v) (h : Txt B w v l) (s : ByteArray) (hx : a.eval x = .string s) (hb : l.length + s.size ≤ 1000000000)
    (k : ∀ v' w', Txt B w' v' (l ++ s.data.toList) → w.grownBy w' v.ownBlock → Lies w v v' → wpList Tryz.prog ops Q rest (a.put o.dst v') w') : wpList Tryz.prog ops Q (o :: rest) a w := by
  refine wpList_plain hgd fun K hK => ?_
  obtain ⟨v', w', hr, h2, h3, h4⟩ := run_str_at h s hb o.type
  unfold Oper.wp execOp
  simp only [ho, resolve, invoke, builtin, Sem.run_bind, Sem.run_pure, Result.andThen_ok, List.map_toArray, List.map_cons, List.map_nil, hs, hx, hr]
  exact hK _ _ (k v' w' h2 h3 h4)
set_option maxHeartbeats 1000000 in
theorem appuint_small {B n : Nat} {w : World} {v : Value} {l : List UInt8} (h : Txt B w v l) (hn : n < 100) (hb : l.length ≤ 1000000) : Calls Tryz.prog 162 #[v, .int .u64 (n : Int), .int .i64 10] w (TellP B l (dgs n) w v) := by
  have H := Lib.hid (fun W : World => Tryz.internal_strconv_small n hn W)
  have hl : (Lib.decDigits n).length ≤ 2 := by
    rw [Lib.decDigits_length]
    by_cases h10 : n < 10
    · rw [Lib.nDigits_small h10]; omega
    · rw [Lib.nDigits_big h10, Lib.nDigits_small (by omega)]; omega
  have g1 : decide ((n : Int) < 100) = true := by simp; omega
  have hn0 : (0 : Int) ≤ (n : Int) := by omega
  have hn1 : (n : Int) < 100 := by omega
  have HT := Lib.hid h
  clear h
  go_enter Tryz.func162, Tryz.ntmps162
  go_wp2_with (first
    | ((with_reducible refine (H.out _).mono ?_); rintro e w' ⟨rfl, rfl⟩)
    | (at_builtin; refine wpList_str _ rfl _ _ rfl rfl HT.out _ rfl (by show l.length + (Lib.decDigits n).toArray.size ≤ _; simp; omega) ?_; intro v' w' h1 h2 h3))
  go_ret
  exact ⟨v', rfl, h1, h2, h3⟩
theorem arr24 : Tryz.prog.arrayLen 235 = 24 := by kernel_rfl
set_option maxHeartbeats 2000000 in
theorem appuint_big {B n : Nat} {w : World} {v : Value} {l : List UInt8} (h : Txt B w v l) (hT : Tabs w) (hn : 100 ≤ n) (hn2 : n < 9223372036854775808) (hb : l.length ≤ 1000000) : Calls Tryz.prog 162 #[v, .int .u64 (n : Int), .int .i64 10] w (TellP B l (dgs n) w v) := by
  obtain ⟨i0, hi0, hz⟩ := Option.map_eq_some_iff.1 infoB
  simp only [Prod.mk.injEq] at hz
  obtain ⟨hz0, hz1, hz2⟩ := hz
  have hnd : Lib.nDigits n ≤ 20 := by have := Lib.numDigits_eq n (by omega) (by omega); split at this <;> omega
  have hsl : ∀ W, (Instr.sliceAt 235 (.pointer (some ⟨w.heap.size, 0, none⟩)) none (some (.int .i64 (Lib.nDigits n : Int))) none).run Tryz.prog W = .ok (.slice (some ⟨w.heap.size, 0, none⟩) (Lib.nDigits n) 24) W := fun W => by
    rw [run_sliceAt_array_h W 235 ⟨w.heap.size, 0, none⟩ (by kernel_rfl) .i64 (Lib.nDigits n : Int) (by omega) (by rw [arr24]; omega)]
    go_simp
  have hH0 := Lib.holds_zero0 w 235 (Lib.nDigits n) (by omega)
  have hfmt := Tryz.internal_strconv_formatBase10 w.heap.size 0 24 n (Array.replicate (Lib.nDigits n) 0) (w.alloc (.cells Lib.zeros24 235)) hH0 (by rw [Array.size_replicate]; exact Lib.lt_pow_nDigits n) (by omega) (by rw [Array.size_replicate]; omega)
  rw [Array.size_replicate] at hfmt
  have H1 := Lib.hid (fun (W : World) (hW : Below w.heap.size w W) => Tryz.internal_strconv_numDigits n (by omega) (by omega) W (tabs_on hT hW))
  have H2 := Lib.hid hfmt
  have HH0 := Lib.hid hH0
  have HT := Lib.hid h
  have HI := Lib.hid hi0
  have HZ0 := Lib.hid hz0
  have HZ1 := Lib.hid hz1
  have HZ2 := Lib.hid hz2
  have g1 : decide ((n : Int) < 100) = false := by simp; omega
  have hba : Below w.heap.size w (w.alloc (.cells Lib.zeros24 235)) := (Below.refl _ _).alloc (Nat.le_refl _) _
  have HBA := Lib.hid hba
  have hn0 : (0 : Int) ≤ (n : Int) := by omega
  clear hfmt hH0 h hT hi0 hz0 hz1 hz2 hba
  go_enter Tryz.func162, Tryz.ntmps162
  go_wp2_with fail
  refine (H1.out _ HBA.out).mono ?_
  rintro e w' ⟨rfl, rfl⟩
  go_wp2_with fail
  refine H2.out.mono ?_
  rintro e w' ⟨rfl, k, v', dk, rfl, hF⟩
  have hcells : ∀ j u', (Lib.byteCells (dgs n))[j]? = some u' → ((putRow (fun (b : UInt8) => Value.int .u8 (b.toNat : Int)) (w.alloc (.cells Lib.zeros24 235)) w.heap.size 0 dk).drewN k).cell? ((⟨w.heap.size, 0, none⟩ : Addr).add j) = some u' := by
    intro j u' hj
    have hjl : j < (Lib.decDigits n).length := by
      have h5 := (List.getElem?_eq_some_iff.1 hj).1
      rwa [Lib.byteCells_length] at h5
    have e5 : (Lib.byteCells (dgs n))[j]? = some (Value.int .u8 ((Lib.decDigits n)[j].toNat : Int)) := by simp [Lib.byteCells, dgs, hjl]
    rw [e5] at hj
    rw [← Option.some.inj hj, Lib.row_is_numeral hF j hjl, Lib.add_plain, World.cell?_drewN]
    exact cell?_putRow (fun (b : UInt8) => Value.int .u8 (b.toNat : Int)) _ w.heap.size 0 _ dk HH0.out (by rw [hF.size, Array.size_replicate]) j (by rw [hF.size]; rw [Lib.decDigits_length] at hjl; exact hjl)
  obtain ⟨os, eo⟩ := Lib.fin_at w (.cells Lib.zeros24 235) dk k 0
  have hbel : Below w.heap.size w ((putRow (fun (b : UInt8) => Value.int .u8 (b.toNat : Int)) (w.alloc (.cells Lib.zeros24 235)) w.heap.size 0 dk).drewN k) := by rw [eo]; exact Lib.below_grow w.heap.size w (Nat.le_refl _) k os
  generalize (putRow (fun (b : UInt8) => Value.int .u8 (b.toNat : Int)) (w.alloc (.cells Lib.zeros24 235)) w.heap.size 0 dk).drewN k = W2 at hcells hbel ⊢
  have HC := Lib.hid hcells
  have HBL := Lib.hid hbel
  have hwz := hbel.size
  clear eo hcells hbel hF
  go_wp2_with (at_builtin; refine wpList_append_lies _ rfl _ _ 150 rfl B 5 i0 (.int .u8 0) 1 1 Tryz.underlying150 HI.out HZ0.out HZ1.out HZ2.out rfl (by decide) _ _ _ rfl (HT.out.below HBL.out).own ⟨w.heap.size, 0, none⟩ (Lib.nDigits n) 24 (Lib.byteCells (dgs n)) rfl ?c0 HC.out ?c2 ?c3 ?c4 ?c5 ?c6 W2.heap.size rfl ?_)
  case c0 => rw [Lib.byteCells_length, dgs, Lib.decDigits_length, Nat.mul_one]
  case c2 => intro u' hu'; simp only [Lib.byteCells, List.mem_map] at hu'; obtain ⟨b, _, rfl⟩ := hu'; rfl
  case c3 => exact Lib.nDigits_pos n
  case c4 => unfold maxLen; omega
  case c5 => omega
  case c6 => exact Nat.le_trans HT.out.low hwz
  intro g cap w3 ho hg hat hlt
  have HO := Lib.hid ho
  have HG := Lib.hid hg
  have HA := Lib.hid hat
  clear ho hg hat
  go_wp2
  go_ret
  have e1 : (l ++ dgs n).length = l.length + Lib.nDigits n := by rw [List.length_append, dgs, Lib.decDigits_length]
  have e2 : Lib.byteCells (l ++ dgs n) = Lib.byteCells l ++ Lib.byteCells (dgs n) := by simp [Lib.byteCells]
  refine ⟨_, rfl, ⟨?_, Nat.le_trans HT.out.low (Nat.le_trans hwz HG.out.size)⟩, ?_, ?_⟩
  · rw [e1, e2]; exact HO.out
  · exact grow_trans (v1 := v) (grow_below HBL.out _) (Lies.refl _ _) HG.out
  · rcases HA.out with ha | ha
    · exact .inl ha.symm
    · exact .inr ⟨g, rfl, by omega⟩
theorem appuint_any {B n : Nat} {w : World} {v : Value} {l : List UInt8} (h : Txt B w v l) (hT : Tabs w) (hn2 : n < 9223372036854775808) (hb : l.length ≤ 1000000) : Calls Tryz.prog 162 #[v, .int .u64 (n : Int), .int .i64 10] w (TellP B l (dgs n) w v) := by
  by_cases hn : n < 100
  · exact appuint_small h hn hb
  · exact appuint_big h hT (by omega) hn2 hb
theorem appint_any {B n : Nat} {w : World} {v : Value} {l : List UInt8} (h : Txt B w v l) (hT : Tabs w) (hn2 : n < 9223372036854775808) (hb : l.length ≤ 1000000) : Calls Tryz.prog 134 #[v, .int .i64 (n : Int), .int .i64 10] w (TellP B l (dgs n) w v) := by
  have H := Lib.hid (appuint_any h hT hn2 hb)
  have g1 : decide ((n : Int) < 0) = false := by simp
  have hn0 : (0 : Int) ≤ (n : Int) := by omega
  have hn1 : (n : Int) < 9223372036854775808 := by omega
  clear h hT
  have H2 : Calls Tryz.prog 149 #[v, .int .i64 (n : Int), .int .i64 10] w (TellP B l (dgs n) w v) := by
    go_enter Tryz.func149, Tryz.ntmps149
    go_wp2_with fail
    refine (H.out).mono ?_
    intro e w' hp
    obtain ⟨v', rfl, hp⟩ := hp
    have HP := Lib.hid hp
    clear hp
    go_wp2
    go_ret
    exact ⟨v', rfl, HP.out⟩
  have H3 := Lib.hid H2
  clear H2
  go_enter Tryz.func134, Tryz.ntmps134
  go_wp2_with fail
  refine (H3.out).mono ?_
  intro e w' hp
  obtain ⟨v', rfl, hp⟩ := hp
  have HP := Lib.hid hp
  clear hp
  go_wp2
  go_ret
  exact ⟨v', rfl, HP.out⟩
end
end Go.Proofs.YtodijgndbjfbgaaGreatDoor
