/-
  targets and Support, walked.
-/
import Derived.Test.YtkgjpimapfmeoaaDoorM5
import Derived.Test.YtkgjpimapfmeoaaDoorM9
import Derived.Test.YtkgjpimapfmeoaaDoorM8
namespace Go.Proofs.YtkgjpimapfmeoaaDoor
open Go.RowKit Go.Sort Go.Lib

/-- Where moves go, rising. -/
def srt (l : List MvO) : List Int := (l.map MvO.to).mergeSort fun x y => decide (x ≤ y)
theorem srt_perm (l : List MvO) : (srt l).Perm (l.map MvO.to) := List.mergeSort_perm _ _
theorem srt_len (l : List MvO) : (srt l).length = l.length := by rw [(srt_perm l).length_eq, List.length_map]
theorem srt_pw (l : List MvO) : (srt l).Pairwise (fun x y => x ≤ y) := by
  refine (List.pairwise_mergeSort (le := fun x y => decide (x ≤ y)) ?_ ?_ (l.map MvO.to)).imp (fun h => by simpa using h)
  · intro a b c h1 h2
    simp only [decide_eq_true_eq] at h1 h2 ⊢
    omega
  · intro a b
    simp only [Bool.or_eq_true, decide_eq_true_eq]
    omega
section
variable {α : Type} [Inhabited α] [DecidableEq α]
theorem upto_mem (d : Array α) (x : α) : ∀ m, x ∈ compactUpTo d m ↔ ∃ j, j < m ∧ d[j]! = x
  | 0 => by
    constructor
    · intro h; simp [compactUpTo] at h
    · rintro ⟨j, h, _⟩; omega
  | m + 1 => by
    rw [compactUpTo_succ, List.mem_append, upto_mem d x m]
    constructor
    · rintro (⟨j, h1, h2⟩ | h)
      · exact ⟨j, by omega, h2⟩
      · by_cases hk : keeps d m = true
        · rw [if_pos hk, List.mem_singleton] at h
          exact ⟨m, by omega, h.symm⟩
        · rw [if_neg hk] at h
          exact absurd h (by simp)
    · rintro ⟨j, h1, h2⟩
      by_cases e : j = m
      · subst e
        by_cases hk : keeps d j = true
        · right
          rw [if_pos hk, List.mem_singleton]
          exact h2.symm
        · left
          have hk' : ¬ (j = 0 ∨ d[j]! ≠ d[j - 1]!) := fun h => hk (by unfold keeps; exact decide_eq_true h)
          have h0 : j ≠ 0 := fun h => hk' (.inl h)
          have h3 : d[j]! = d[j - 1]! := by
            by_cases h4 : d[j]! = d[j - 1]!
            · exact h4
            · exact absurd (.inr h4) hk'
          exact ⟨j - 1, by omega, by rw [← h3]; exact h2⟩
      · exact .inl ⟨j, by omega, h2⟩
end
theorem upto_asc (d : Array Int) (hs : ∀ i j, i ≤ j → j < d.size → d[i]! ≤ d[j]!) : ∀ m, m ≤ d.size → (compactUpTo d m).Pairwise (fun x y => x < y)
  | 0, _ => by simp [compactUpTo]
  | m + 1, h => by
    rw [compactUpTo_succ, List.pairwise_append]
    refine ⟨upto_asc d hs m (by omega), by split <;> simp, fun x hx y hy => ?_⟩
    by_cases hk : keeps d m = true
    · rw [if_pos hk, List.mem_singleton] at hy
      subst hy
      obtain ⟨j, h1, rfl⟩ := (upto_mem d x m).1 hx
      unfold keeps at hk
      rw [decide_eq_true_iff] at hk
      rcases hk with hk | hk
      · omega
      · have h2 := hs j (m - 1) (by omega) (by omega)
        have h3 := hs (m - 1) m (by omega) (by omega)
        omega
    · rw [if_neg hk] at hy
      exact absurd hy (by simp)
theorem compact_in (l : List Int) (x : Int) : x ∈ compact l ↔ x ∈ l := by
  unfold compact
  rw [upto_mem]
  constructor
  · rintro ⟨j, h1, h2⟩
    rw [getElem!_pos _ _ (by simpa using h1)] at h2
    rw [← h2]
    exact List.getElem_mem (by simpa using h1)
  · intro h
    obtain ⟨j, h1, h2⟩ := List.mem_iff_getElem.1 h
    exact ⟨j, h1, by rw [getElem!_pos _ _ (by simpa using h1)]; exact h2⟩
theorem compact_asc {l : List Int} (h : l.Pairwise (fun x y => x ≤ y)) : (compact l).Pairwise (fun x y => x < y) := by
  unfold compact
  refine upto_asc _ (fun i j hij hj => ?_) _ (by simp)
  have hj' : j < l.length := by simpa using hj
  rw [getElem!_pos l.toArray i (by simp; omega), getElem!_pos l.toArray j (by simpa using hj')]
  show l[i] ≤ l[j]
  by_cases e : i = j
  · subst e; exact Int.le_refl _
  · exact List.pairwise_iff_getElem.1 h i j (by omega) hj' (by omega)
theorem compact_none : compact (srt []) = [] := by simp [srt, compact, compactUpTo]
def TgP (l : List MvO) (w : World) (e : Ending) (w' : World) : Prop :=
  ∃ g, e = .returned (.slice (some ⟨g, 0, none⟩) l.length l.length) ∧ w.heap.size ≤ g ∧ g < w'.heap.size ∧ Holds (Value.int .i64) w' g 0 (srt l).toArray ∧ Below w.heap.size w w'
def TgRel (l : List MvO) (q : Nat) (w : World) (i : Value) (wr : World) : Prop :=
  ∃ k : Nat, i = .int .i64 (k : Int) ∧ k ≤ l.length ∧ Vals wr q l.length (fun j => if j < k then (l.getD j ⟨0, 0⟩).to else 0) ∧ Below w.heap.size w wr
theorem vals_holds {w : World} {q n : Nat} {f : Nat → Int} {l : List Int} (h : Vals w q n f) (hl : l.length = n) (hf : ∀ i (hi : i < l.length), f i = l[i]) : Holds (Value.int .i64) w q 0 l.toArray := by
  intro j hj
  have hj' : j < l.length := by simpa using hj
  refine ⟨?_, Bx.frozen h _⟩
  rw [Nat.zero_add, h.cell (by omega), getElem!_pos l.toArray j hj, hf j hj']
  rfl
set_option maxHeartbeats 4000000 in
set_option maxRecDepth 100000 in
theorem targets_any {A : Option Addr} {l : List MvO} {cap : Nat} {act : ByteArray} (w : World) (hA : MSl w A l) (hl : l.length ≤ 1000000) : Calls Tryd.prog 27 #[.agg #[.string act, .slice A l.length cap]] w (TgP l w) := by
  obtain ⟨i0, hi0, hz⟩ := Option.map_eq_some_iff.1 infoI
  simp only [Prod.mk.injEq] at hz
  obtain ⟨hz0, hz1, hz2⟩ := hz
  have HI := Lib.hid hi0
  have HZ0 := Lib.hid hz0
  have HZ1 := Lib.hid hz1
  have HZ2 := Lib.hid hz2
  have HA := Lib.hid hA
  have HX := Lib.hid (Bx.new w 49 [.string act, .slice A l.length cap])
  have HW := Lib.hid (below_alloc w (.cells #[.string act, .slice A l.length cap] 49))
  change Hid (Bx (w.alloc (.cells #[.string act, .slice A l.length cap] 49)) w.heap.size 49 [.string act, .slice A l.length cap]) at HX
  obtain ⟨n, hn⟩ : ∃ n, n = l.length := ⟨_, rfl⟩
  have HN := Lib.hid hn
  rw [← hn] at HX HW hl
  show Calls Tryd.prog 27 #[.agg #[.string act, .slice A l.length cap]] w _
  rw [← hn]
  clear hA hn hi0 hz0 hz1 hz2
  have x1 : (w.alloc (.cells #[.string act, .slice A n cap] 49)).cell? ⟨w.heap.size, 1, none⟩ = some (.slice A n cap) := HX.out.cell 1
  go_enter Tryd.func27, Tryd.ntmps27
  go_wp2_with (at_make; refine wpList_make_full _ rfl _ _ 36 rfl (w.heap.size + 1) 3 i0 (.int .i64 0) 1 Tryd.underlying36 HI.out HZ0.out HZ1.out .i64 .i64 (n : Int) (n : Int) n rfl rfl rfl rfl (by rw [HZ2.out]; omega) (by unfold maxLen; omega) (by simp) ?_)
  intro w1 ho1 hg1
  rw [made_one] at ho1
  have HB01 := Lib.hid ((Below.refl _ (w.alloc (.cells #[.string act, .slice A n cap] 49))).grown hg1 (Nat.le_refl _) (fun k hk => by cases hk))
  have HB1 := Lib.hid (below_t HW.out HB01.out)
  have HX1 := Lib.hid (HX.out.below HB01.out)
  have x2 : w1.cell? ⟨w.heap.size, 1, none⟩ = some (.slice A n cap) := HX1.out.cell 1
  have HQ1 := Lib.hid (vals_made (owns_full ho1) (f := fun j => if j < 0 then (l.getD j ⟨0, 0⟩).to else 0) (fun j => rfl))
  have hz1 := HB1.out.size
  have hbl := HX1.out.lt
  clear ho1 hg1
  obtain ⟨q, hq⟩ : ∃ q, q = w.heap.size + 1 := ⟨_, rfl⟩
  rw [← hq] at HQ1 ⊢
  have hqw : w.heap.size ≤ q := by omega
  clear hq
  go_wp2
  go_loopw [13] (fun i wr => TgRel l q w i wr) (fun i _ => n - (intOf i).toNat)
  case atStart => exact ⟨0, rfl, Nat.zero_le _, by rw [← HN.out]; exact HQ1.out, HB1.out⟩
  case round =>
    clear HQ1 HB1 HB01 HX1 x2 hz1 hbl
    obtain ⟨k, rfl, hk, hv, hb⟩ := hrel
    rw [← HN.out] at hv
    have HV := Lib.hid hv
    have HB := Lib.hid hb
    have hz := hb.size
    have hqz := Bx.lt hv
    clear hv hb
    by_cases hlt : k < n
    · have d1 : decide (k < n) = true := by simp; omega
      have kk : k < l.length := by rw [← HN.out]; exact hlt
      obtain ⟨g, o, rfl, c1, c2⟩ := HA.out k kk
      have HAA := Lib.hid HA
      clear HA hk
      replace c1 := cell_blw HB.out c1
      replace c2 := cell_blw HB.out c2
      have c2' := c2
      rw [← Nat.add_assoc] at c2'
      have c3 := HV.out.cell hlt
      have f3 := Bx.frozen HV.out k
      have HST := Lib.hid (show ∀ j, j < n → (if j < k + 1 then (l.getD j ⟨0, 0⟩).to else 0) = if k = j then l[k].to else (if j < k then (l.getD j ⟨0, 0⟩).to else 0) from fun j _ => by
        by_cases e : k = j
        · subst e
          rw [if_pos rfl, if_pos (by omega), List.getD_eq_getElem?_getD, List.getElem?_eq_getElem kk]; rfl
        · rw [if_neg e]
          by_cases e2 : j < k
          · rw [if_pos e2, if_pos (by omega)]
          · rw [if_neg e2, if_neg (by omega)])
      generalize l[k] = mv at *
      obtain ⟨to, wt⟩ := mv
      simp only at c1 c2 c2' HST
      go_wp2_with fail
      go_roundw
      case rel =>
        have h5 := (HV.out.set k to HST.out).below (below_alloc _ (.cells #[.int .i64 to, .int .i64 wt] 60))
        rw [HN.out] at h5
        exact ⟨k + 1, by go_num, by rw [← HN.out]; omega, h5, (HB.out.setCell hqw _).alloc (by simp; omega) _⟩
      case measure => simp [intOf]; omega
    · have d1 : decide (k < n) = false := by simp; omega
      have HH := Lib.hid (vals_holds (l := l.map MvO.to) HV.out (by rw [List.length_map]; exact HN.out.symm) (fun i hi => by
        have hi' : i < l.length := by simpa using hi
        rw [if_pos (by have := HN.out; omega), List.getElem_map, List.getD_eq_getElem?_getD, List.getElem?_eq_getElem hi']; rfl))
      clear hlt hk
      by_cases h0 : n = 0
      · subst h0
        have hnil : l = [] := List.eq_nil_of_length_eq_zero HN.out.symm
        have HNIL := Lib.hid hnil
        clear hnil
        go_wp2_with fail
        refine (Tryd.slices_Sort_int_none _ _ wr).mono ?_
        rintro e w2 ⟨rfl, rfl⟩
        go_wp2
        go_ret
        exact ⟨q, by rw [HNIL.out]; rfl, hqw, hqz, by rw [HNIL.out]; intro j hj; exact absurd hj (by simp [srt]), HB.out⟩
      · have HSO := Lib.hid (Tryd.slices_Sort_int q 0 n (l.map MvO.to) wr HH.out hqz (by rw [List.length_map, ← HN.out]; omega))
        rw [List.length_map, ← HN.out] at HSO
        go_wp2_with fail
        with_reducible refine (HSO.out).mono ?_
        rintro e w2 ⟨rfl, d, os, rfl⟩
        have HB2 := Lib.hid (show Below w.heap.size w (grow (putRow (Value.int .i64) (Sort.ahead wr d) q 0 (srt l).toArray) os) from below_growW (below_putRow HB.out hqw) (by simpa [putRow, mapBlock, Sort.ahead] using hz))
        have HH2 := Lib.hid (show Holds (Value.int .i64) (grow (putRow (Value.int .i64) (Sort.ahead wr d) q 0 (srt l).toArray) os) q 0 (srt l).toArray from holds_grow _ _ _ _ _ _ (by simpa [putRow, mapBlock, Sort.ahead] using hqz) (holds_putRow _ _ _ _ (l.map MvO.to).toArray _ (fun j hj => HH.out j hj) (by simp [srt_len])))
        have hq2 : q < (grow (putRow (Value.int .i64) (Sort.ahead wr d) q 0 (srt l).toArray) os).heap.size := by
          have : q < (putRow (Value.int .i64) (Sort.ahead wr d) q 0 (srt l).toArray).heap.size := by simpa [putRow, mapBlock, Sort.ahead] using hqz
          simp only [size_grow]; omega
        change Hid (Below w.heap.size w (grow (putRow (Value.int .i64) (Sort.ahead wr d) q 0 ((l.map MvO.to).mergeSort fun x y => decide (x ≤ y)).toArray) os)) at HB2
        change Hid (Holds (Value.int .i64) (grow (putRow (Value.int .i64) (Sort.ahead wr d) q 0 ((l.map MvO.to).mergeSort fun x y => decide (x ≤ y)).toArray) os) q 0 (srt l).toArray) at HH2
        change q < (grow (putRow (Value.int .i64) (Sort.ahead wr d) q 0 ((l.map MvO.to).mergeSort fun x y => decide (x ≤ y)).toArray) os).heap.size at hq2
        generalize grow (putRow (Value.int .i64) (Sort.ahead wr d) q 0 ((l.map MvO.to).mergeSort fun x y => decide (x ≤ y)).toArray) os = w3 at *
        go_wp2
        go_ret
        exact ⟨q, by rw [← HN.out]; rfl, hqw, hq2, HH2.out, HB2.out⟩
/-- What Support tells. -/
def SpP (l : List MvO) (w : World) (e : Ending) (w' : World) : Prop := ∃ A cap, e = .returned (.slice A (compact (srt l)).length cap) ∧ ISl w' A (compact (srt l)) ∧ Below w.heap.size w w'
theorem holds_isl {w : World} {g : Nat} {l : List Int} (h : Holds (Value.int .i64) w g 0 l.toArray) : ISl w (some ⟨g, 0, none⟩) l := by
  intro i hi
  refine ⟨g, 0, rfl, ?_⟩
  rw [(h i (by simpa using hi)).1, getElem!_pos l.toArray i (by simpa using hi)]
  rfl
set_option maxHeartbeats 4000000 in
set_option maxRecDepth 100000 in
theorem support_any {A : Option Addr} {l : List MvO} {cap : Nat} {act : ByteArray} (w : World) (hA : MSl w A l) (hl : l.length ≤ 1000000) : Calls Tryd.prog 17 #[.agg #[.string act, .slice A l.length cap]] w (SpP l w) := by
  have HT := Lib.hid (fun (W : World) (hb : Below w.heap.size w W) => targets_any (act := act) (cap := cap) W (hA.below hb) hl)
  have HW := Lib.hid (below_alloc w (.cells #[.string act, .slice A l.length cap] 49))
  obtain ⟨n, hn⟩ : ∃ n, n = l.length := ⟨_, rfl⟩
  have HN := Lib.hid hn
  rw [← hn] at HT HW hl ⊢
  clear hA hn
  go_enter Tryd.func17, Tryd.ntmps17
  go_wp2_with fail
  with_reducible refine (HT.out _ HW.out).mono ?_
  rintro e w1 ⟨g, rfl, hg, hgl, hH, hb⟩
  have HB := Lib.hid (below_t HW.out hb)
  have HH := Lib.hid hH
  have hgw : w.heap.size ≤ g := by have := HW.out.size; omega
  clear hg hH hb
  rw [← HN.out]
  by_cases h0 : n = 0
  · subst h0
    have hnil : l = [] := List.eq_nil_of_length_eq_zero HN.out.symm
    have HNIL := Lib.hid hnil
    clear hnil
    go_wp2_with fail
    refine (Tryd.slices_Compact_int_empty _ _ w1).mono ?_
    rintro e w2 ⟨rfl, rfl⟩
    go_wp2
    go_ret
    refine ⟨some ⟨g, 0, none⟩, 0, ?_, ?_, HB.out⟩
    · rw [HNIL.out, compact_none]; rfl
    · rw [HNIL.out, compact_none]; exact ISl.nil
  · have HC := Lib.hid (Tryd.slices_Compact_int g 0 n (srt l) w1 HH.out (by rw [srt_len, ← HN.out]; omega) (by rw [srt_len, ← HN.out]; exact Nat.le_refl _))
    rw [srt_len, ← HN.out] at HC
    go_wp2_with fail
    with_reducible refine (HC.out).mono ?_
    rintro e w2 ⟨rfl, q, rfl⟩
    have hcl : (compact (srt l)).length ≤ (srt l).length := compact_length_le _
    have hsl : (srt l).length = n := by rw [srt_len, ← HN.out]
    have HB3 := Lib.hid (below_putRow (enc := Value.int .i64) (q := q) (d := (compact (srt l) ++ List.replicate (n - (compact (srt l)).length) 0).toArray) HB.out hgw)
    have HH3 := Lib.hid (holds_putRow (Value.int .i64) (Sort.ahead w1 q) g 0 (srt l).toArray (compact (srt l) ++ List.replicate (n - (compact (srt l)).length) 0).toArray (fun j hj => HH.out j hj) (by simp; omega))
    have HI3 := Lib.hid (show ISl (putRow (Value.int .i64) (Sort.ahead w1 q) g 0 (compact (srt l) ++ List.replicate (n - (compact (srt l)).length) 0).toArray) (some ⟨g, 0, none⟩) (compact (srt l)) from fun i hi => by
      obtain ⟨g', o', h1, h2⟩ := holds_isl HH3.out i (by rw [List.length_append]; omega)
      refine ⟨g', o', h1, ?_⟩
      rw [h2, List.getElem_append_left hi])
    generalize putRow (Value.int .i64) (Sort.ahead w1 q) g 0 (compact (srt l) ++ List.replicate (n - (compact (srt l)).length) 0).toArray = w3 at *
    go_wp2
    go_ret
    exact ⟨_, _, rfl, HI3.out, HB3.out⟩
end Go.Proofs.YtkgjpimapfmeoaaDoor
