/-
  Letters: what a label adds; valuesOf, walked.
-/
import Derived.Test.YtkgjpimapfmeoaaDoorM6
namespace Go.Proofs.YtkgjpimapfmeoaaDoor
open Go.RowKit

/-- What place i adds, where the k-th label stands at place l[k]. -/
def vO : Int → List Nat → Nat → Int
  | _, [], _ => 0
  | pw, a :: r, i => (if a = i then pw else 0) + vO (2 * pw) r i
theorem vO_snoc (i a : Nat) : ∀ (l : List Nat) (pw : Int), vO pw (l ++ [a]) i = vO pw l i + (if a = i then pw * (2 : Int) ^ l.length else 0)
  | [], pw => by simp [vO]
  | b :: l, pw => by
    simp only [List.cons_append, vO, vO_snoc i a l (2 * pw), List.length_cons, Int.pow_succ]
    split <;> split <;> simp [Int.mul_assoc, Int.mul_comm] <;> omega
theorem vO_none (i : Nat) : ∀ (l : List Nat) (pw : Int), i ∉ l → vO pw l i = 0
  | [], _, _ => rfl
  | b :: l, pw, h => by
    rw [vO, if_neg (fun e => h (by simp [e])), vO_none i l _ (fun hm => h (by simp [hm]))]
    rfl
theorem vO_bd (i : Nat) : ∀ (l : List Nat) (pw : Int), 0 ≤ pw → 0 ≤ vO pw l i ∧ vO pw l i ≤ pw * ((2 : Int) ^ l.length - 1)
  | [], pw, _ => by simp [vO]
  | b :: l, pw, h => by
    have h1 := vO_bd i l (2 * pw) (by omega)
    rw [vO, List.length_cons, Int.pow_succ]
    have e : pw * ((2 : Int) ^ l.length * 2 - 1) = 2 * pw * ((2 : Int) ^ l.length - 1) + pw := by
      rw [Int.mul_sub, Int.mul_sub, Int.mul_comm ((2 : Int) ^ l.length) 2, ← Int.mul_assoc, Int.mul_comm pw 2]
      omega
    rw [e]
    split <;> omega
theorem pow_le6 {n : Nat} (h : n ≤ 6) : (2 : Int) ^ n ≤ 64 := by
  match n, h with
  | 0, _ | 1, _ | 2, _ | 3, _ | 4, _ | 5, _ | 6, _ => decide
theorem wrap_pow {n : Nat} (h : n ≤ 6) : wrap64 ((2 : Int) ^ n) = (2 : Int) ^ n := by
  match n, h with
  | 0, _ | 1, _ | 2, _ | 3, _ | 4, _ | 5, _ | 6, _ => decide +kernel
theorem vO_64 (i : Nat) (l : List Nat) (h : l.length ≤ 6) : 0 ≤ vO 1 l i ∧ vO 1 l i ≤ 63 := by
  have h1 := vO_bd i l 1 (by omega)
  have h2 := pow_le6 h
  omega
/-- A state's letter. -/
def sO (ats : List Nat) : List Int → Int
  | [] => 0
  | i :: r => vO 1 ats i.toNat + sO ats r
theorem sO_snoc (ats : List Nat) (i : Int) : ∀ l : List Int, sO ats (l ++ [i]) = sO ats l + vO 1 ats i.toNat
  | [] => by simp [sO]
  | b :: l => by
    rw [List.cons_append, sO, sO, sO_snoc ats i l]
    omega
theorem sO_bd (ats : List Nat) (h : ats.length ≤ 6) : ∀ l : List Int, 0 ≤ sO ats l ∧ sO ats l ≤ 63 * l.length
  | [] => by simp [sO]
  | b :: l => by
    have h1 := sO_bd ats h l
    have h2 := vO_64 b.toNat ats h
    rw [sO, List.length_cons]
    push_cast
    omega
/-- Where a text stands. -/
def posO (l : List ByteArray) (x : ByteArray) : Nat := l.findIdx fun y => decide (y = x)
theorem posO_lt {l : List ByteArray} {x : ByteArray} (h : x ∈ l) : posO l x < l.length := List.findIdx_lt_length_of_exists ⟨x, h, by simp⟩
theorem posO_get {l : List ByteArray} {x : ByteArray} (h : x ∈ l) : l[posO l x]'(posO_lt h) = x := by
  have := List.findIdx_getElem (xs := l) (p := fun y => decide (y = x)) (w := posO_lt h)
  unfold posO
  simpa using this
theorem posO_before {l : List ByteArray} {x : ByteArray} {j : Nat} (h : j < posO l x) (hj : j < l.length) : l[j] ≠ x := by
  have := List.not_of_lt_findIdx h
  simpa using this
def atsO (nms labels : List ByteArray) : List Nat := labels.map (posO nms)
open Classical in
/-- The letters, or which error. -/
noncomputable def letE (p : PrO) (labels : List ByteArray) : Nat := if p.right ∧ labels.length ≤ 6 ∧ labels.Nodup then (if ∀ x ∈ labels, x ∈ p.nms then 0 else 30) else 1
noncomputable def letO (p : PrO) (labels : List ByteArray) : List Int := if letE p labels = 0 then p.hds.map (sO (atsO p.nms labels)) else []

open Classical in
theorem index_any {A : Option Addr} {l : List ByteArray} {cap : Nat} (x : ByteArray) (w : World) (hl : SSl w A l) (hlen : l.length ≤ 1000000) :
    Calls Tryd.prog 39 #[.slice A l.length cap, .string x] w fun e w' => e = .returned (.int .i64 (if x ∈ l then ((posO l x : Nat) : Int) else -1)) ∧ w' = w := by
  have hv : Lib.idxOfS l x = if x ∈ l then ((posO l x : Nat) : Int) else -1 := by
    by_cases hx : x ∈ l
    · rw [if_pos hx]
      have h1 := posO_lt hx
      have h2 := Lib.idxOfS_hit l l.length (posO l x) x h1 (Nat.le_refl _) (by rw [List.getD_eq_getElem?_getD, List.getElem?_eq_getElem h1]; exact posO_get hx) (fun j hj => by
        rw [List.getD_eq_getElem?_getD, List.getElem?_eq_getElem (by omega)]
        exact posO_before hj (by omega))
      rwa [List.take_of_length_le (Nat.le_refl _)] at h2
    · rw [if_neg hx]
      have h2 := Lib.idxOfS_miss l l.length x (fun j hj => by
        rw [List.getD_eq_getElem?_getD, List.getElem?_eq_getElem hj]
        exact fun e => hx (by rw [← e]; exact List.getElem_mem hj))
      rwa [List.take_of_length_le (Nat.le_refl _)] at h2
  by_cases h0 : l.length = 0
  · have he : l = [] := List.eq_nil_of_length_eq_zero h0
    subst he
    refine (Tryd.slices_Index_string_empty A cap x w).mono ?_
    rintro e w1 ⟨rfl, rfl⟩
    exact ⟨by rw [hv], rfl⟩
  · obtain ⟨g, o, rfl, _⟩ := hl 0 (by omega)
    refine (Tryd.slices_Index_string g o l.length cap l x w (Nat.le_refl _) (by omega) (fun j hj => by
      obtain ⟨g', o', e, hc⟩ := hl j hj
      injection e with e
      injection e with e1 e2
      subst e1 e2
      rw [hc, List.getD_eq_getElem?_getD, List.getElem?_eq_getElem hj]; rfl)).mono ?_
    rintro e w1 ⟨rfl, rfl⟩
    exact ⟨by rw [List.take_of_length_le (Nat.le_refl _), hv], rfl⟩
/-- Numbers by place in a block. -/
def Vals (w : World) (q m : Nat) (f : Nat → Int) : Prop := Bx w q 3 ((List.range m).map fun i => iv (f i))
theorem Vals.cell {w : World} {q m : Nat} {f : Nat → Int} (h : Vals w q m f) {i : Nat} (hi : i < m) : w.cell? ⟨q, i, none⟩ = some (.int .i64 (f i)) := by
  rw [Bx.cell h i, List.getElem?_map, List.getElem?_range hi]; rfl
theorem Vals.below {w w' : World} {q m : Nat} {f : Nat → Int} (h : Vals w q m f) (hb : Below w.heap.size w w') : Vals w' q m f := Bx.below h hb
theorem Vals.set {w : World} {q m : Nat} {f g : Nat → Int} (h : Vals w q m f) (i : Nat) (x : Int) (hg : ∀ j, j < m → g j = if i = j then x else f j) : Vals (w.setCell ⟨q, i, none⟩ (.int .i64 x)) q m g := by
  have h1 := Bx.set h i (.int .i64 x)
  have e : ((List.range m).map fun i => iv (f i)).set i (.int .i64 x) = (List.range m).map fun i => iv (g i) := by
    apply List.ext_getElem
    · simp
    · intro j h1 h2
      have hj : j < m := by simpa using h2
      rw [List.getElem_set, List.getElem_map, List.getElem_range, List.getElem_map, List.getElem_range, hg j hj]
      split <;> rfl
  rw [e] at h1
  exact h1
theorem vals_made {w : World} {q m : Nat} (h : Bx w q 3 (List.replicate m (.int .i64 0))) {f : Nat → Int} (hf : ∀ j, f j = 0) : Vals w q m f := by
  have e : (List.range m).map (fun i => iv (f i)) = List.replicate m (.int .i64 0) := by
    rw [List.eq_replicate_iff]
    refine ⟨by simp, fun u hu => ?_⟩
    obtain ⟨j, _, rfl⟩ := List.mem_map.1 hu
    rw [hf]; rfl
  unfold Vals
  rw [e]
  exact h
def VlRel (nms labels : List ByteArray) (m q : Nat) (w0 : World) (i : Value) (wr : World) : Prop :=
  ∃ k : Nat, i = .int .i64 (k : Int) ∧ k ≤ labels.length ∧ Vals wr q m (vO 1 (atsO nms (labels.take k))) ∧ (∀ x ∈ labels.take k, x ∈ nms) ∧ Below w0.heap.size w0 wr
def VlP (nms labels : List ByteArray) (m : Nat) (w0 : World) (e : Ending) (w' : World) : Prop :=
  ((∀ x ∈ labels, x ∈ nms) ∧ (∃ q, e = .returned (.tuple #[.slice (some ⟨q, 0, none⟩) m m, .bool true]) ∧ Vals w' q m (vO 1 (atsO nms labels)) ∧ Below w0.heap.size w0 w')) ∨
    (¬ (∀ x ∈ labels, x ∈ nms) ∧ e = .returned (.tuple #[.slice none 0 0, .bool false]) ∧ Below w0.heap.size w0 w')
theorem vlP_yes {nms labels : List ByteArray} {m q : Nat} {w0 w' : World} (h1 : ∀ x ∈ labels, x ∈ nms) (h2 : Vals w' q m (vO 1 (atsO nms labels))) (h3 : Below w0.heap.size w0 w') : VlP nms labels m w0 (.returned (.tuple #[.slice (some ⟨q, 0, none⟩) m m, .bool true])) w' := Or.inl ⟨h1, q, rfl, h2, h3⟩
theorem vlP_no {nms labels : List ByteArray} {m : Nat} {w0 w' : World} (h1 : ¬ ∀ x ∈ labels, x ∈ nms) (h3 : Below w0.heap.size w0 w') : VlP nms labels m w0 (.returned (.tuple #[.slice none 0 0, .bool false])) w' := Or.inr ⟨h1, rfl, h3⟩
theorem vl_step {nms labels : List ByteArray} {k m : Nat} (hk : k < labels.length) (hn : labels.Nodup) (hin : ∀ x ∈ labels.take k, x ∈ nms) (hx : labels[k] ∈ nms) :
    ∀ j, j < m → vO 1 (atsO nms (labels.take (k + 1))) j = if posO nms labels[k] = j then (2 : Int) ^ k else vO 1 (atsO nms (labels.take k)) j := by
  intro j _
  rw [take_snoc hk, atsO, List.map_append, List.map_cons, List.map_nil, vO_snoc, List.length_map, List.length_take, Nat.min_eq_left (by omega)]
  by_cases e : posO nms labels[k] = j
  · rw [if_pos e, if_pos e, vO_none, Int.one_mul, Int.zero_add]
    intro hm
    obtain ⟨x, hxm, hxe⟩ := List.mem_map.1 hm
    rw [← e] at hxe
    have h1 : x = labels[k] := by
      have h2 := posO_get (hin x hxm)
      have h3 := posO_get hx
      rw [← h2, ← h3]
      simp only [hxe]
    subst h1
    have h2 : (labels.take (k + 1)).Nodup := hn.sublist (List.take_sublist _ _)
    rw [take_snoc hk, List.nodup_append] at h2
    exact h2.2.2 _ hxm _ (by simp) rfl
  · rw [if_neg e, if_neg e, Int.add_zero]; rfl
open Classical in
set_option maxHeartbeats 4000000 in
set_option maxRecDepth 100000 in
theorem values_any {A B : Option Addr} {nms labels : List ByteArray} {c1 c2 : Nat} (w : World) (hA : SSl w A nms) (hB : SSl w B labels) (hln : nms.length ≤ 1000000) (hll : labels.length ≤ 6) (hnd : labels.Nodup) :
    Calls Tryd.prog 23 #[.slice A nms.length c1, .slice B labels.length c2] w (VlP nms labels nms.length w) := by
  obtain ⟨i0, hi0, hz⟩ := Option.map_eq_some_iff.1 infoI
  simp only [Prod.mk.injEq] at hz
  obtain ⟨hz0, hz1, hz2⟩ := hz
  have HI := Lib.hid hi0
  have HZ0 := Lib.hid hz0
  have HZ1 := Lib.hid hz1
  have HZ2 := Lib.hid hz2
  have HA := Lib.hid hA
  have HBL := Lib.hid hB
  have HND := Lib.hid hnd
  have HIX := Lib.hid (fun (x : ByteArray) (W : World) (hb : Below w.heap.size w W) => index_any (cap := c1) x W (hA.below hb) hln)
  obtain ⟨n, hn⟩ : ∃ n, n = labels.length := ⟨_, rfl⟩
  obtain ⟨m, hm⟩ : ∃ m, m = nms.length := ⟨_, rfl⟩
  have HN := Lib.hid hn
  have HM := Lib.hid hm
  rw [← hn] at hll ⊢
  rw [← hm] at hln HIX ⊢
  clear hA hB hnd hi0 hz0 hz1 hz2 hn hm
  go_enter Tryd.func23, Tryd.ntmps23
  go_wp2_with (at_make; refine wpList_make_full _ rfl _ _ 36 rfl w.heap.size 3 i0 (.int .i64 0) 1 Tryd.underlying36 HI.out HZ0.out HZ1.out .i64 .i64 (m : Int) (m : Int) m rfl rfl rfl rfl (by rw [HZ2.out]; omega) (by unfold maxLen; omega) (Nat.le_refl _) ?_)
  intro w1 ho1 hg1
  rw [made_one] at ho1
  have HB1 := Lib.hid ((Below.refl w.heap.size w).grown hg1 (Nat.le_refl _) (fun k hk => by cases hk))
  have HX1 := Lib.hid (vals_made (owns_full ho1) (f := vO 1 (atsO nms (labels.take 0))) (fun j => rfl))
  clear ho1 hg1
  go_wp2
  go_loopw [15] (fun i wr => VlRel nms labels m w.heap.size w i wr) (fun i _ => n - (intOf i).toNat)
  case atStart => exact ⟨0, rfl, Nat.zero_le _, HX1.out, fun c hc => absurd hc (by simp), HB1.out⟩
  case round =>
    obtain ⟨k, rfl, hk, hv, hin, hb⟩ := hrel
    have HV := Lib.hid hv
    have HIN := Lib.hid hin
    have HB := Lib.hid hb
    have hzb := hb.size
    have hqz := Bx.lt hv
    clear hv hin hb
    by_cases hlt : k < n
    · have d1 : decide (k < n) = true := by simp; omega
      have kk : k < labels.length := by rw [← HN.out]; exact hlt
      obtain ⟨g, o, rfl, c1⟩ := HBL.out k kk
      replace c1 := cell_blw HB.out c1
      have HBB := Lib.hid HBL
      clear HBL
      by_cases hx : labels[k] ∈ nms
      · have HST := Lib.hid (vl_step (m := m) kk HND.out HIN.out hx)
        have HIN2 := Lib.hid (show ∀ x ∈ labels.take (k + 1), x ∈ nms from fun x hxm => by
          rw [take_snoc kk, List.mem_append] at hxm
          rcases hxm with hxm | hxm
          · exact HIN.out x hxm
          · simp only [List.mem_singleton] at hxm; subst hxm; exact hx)
        have hat : posO nms labels[k] < m := by rw [HM.out]; exact posO_lt hx
        have HIF := Lib.hid (show (if labels[k] ∈ nms then ((posO nms labels[k] : Nat) : Int) else -1) = ((posO nms labels[k] : Nat) : Int) from if_pos hx)
        clear hx hk
        generalize labels[k] = x at *
        obtain ⟨t, ht⟩ : ∃ t, t = posO nms x := ⟨_, rfl⟩
        rw [← ht] at HST hat
        replace HIF := Lib.hid (show (if x ∈ nms then ((posO nms x : Nat) : Int) else -1) = (t : Int) by rw [ht]; exact HIF.out)
        clear ht
        have c2 := HV.out.cell hat
        have f2 := Bx.frozen HV.out t
        go_wp2_with fail
        with_reducible refine (HIX.out x _ HB.out).mono ?_
        rintro e w2 ⟨rfl, rfl⟩
        rw [HIF.out]
        go_wp2_with fail
        go_roundw
        case rel =>
          exact ⟨k + 1, by go_num, by rw [← HN.out]; omega, HV.out.set t _ (fun j hj => by rw [HST.out j hj, wrap_pow (by omega)]), HIN2.out, HB.out.setCell (Nat.le_refl _) _⟩
        case measure => simp [intOf]; omega
      · have HNO := Lib.hid (show ¬ ∀ x ∈ labels, x ∈ nms from fun h => hx (h _ (List.getElem_mem kk)))
        have HIF := Lib.hid (show (if labels[k] ∈ nms then ((posO nms labels[k] : Nat) : Int) else -1) = -1 from if_neg hx)
        clear hx hk
        generalize labels[k] = x at *
        go_wp2_with fail
        with_reducible refine (HIX.out x _ HB.out).mono ?_
        rintro e w2 ⟨rfl, rfl⟩
        rw [HIF.out]
        go_wp2_with fail
        go_ret2
        exact vlP_no HNO.out HB.out
    · have d1 : decide (k < n) = false := by simp; omega
      have HAL := Lib.hid (show ∀ x ∈ labels, x ∈ nms by have h := HIN.out; rw [List.take_of_length_le (by rw [← HN.out]; omega)] at h; exact h)
      have HVA := Lib.hid (show Vals wr w.heap.size m (vO 1 (atsO nms labels)) by have h := HV.out; rw [List.take_of_length_le (by rw [← HN.out]; omega)] at h; exact h)
      clear hlt hk
      go_wp2
      go_ret2
      exact vlP_yes HAL.out HVA.out HB.out
end Go.Proofs.YtkgjpimapfmeoaaDoor
