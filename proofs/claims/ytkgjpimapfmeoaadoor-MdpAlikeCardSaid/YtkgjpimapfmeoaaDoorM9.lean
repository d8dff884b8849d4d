/-
  Lists of numbers that a call makes; marked, walked.
-/
import Derived.Test.YtkgjpimapfmeoaaDoorM3
import Derived.Deep.AppendLies
namespace Go.Proofs.YtkgjpimapfmeoaaDoor
open Go.RowKit

/-- A row of numbers of one's own. -/
def IR (w : World) (b : Nat) (v : Value) (l : List Int) : Prop := w.ownsRow b 3 1 v l.length (l.map iv)
theorem IR.nil (w : World) (b : Nat) : IR w b (.slice none 0 0) [] := World.ownsRow_nil _ _ _ _
theorem own_belowM {w w' : World} {b : Nat} {t : TypeId} {sz n : Nat} {v : Value} {cs : List Value} (h : w.ownsRow b t sz v n cs) (hb : Below w.heap.size w w') : w'.ownsRow b t sz v n cs := by
  refine ⟨h.1, ?_⟩
  rcases h.2 with h | ⟨g, cap, cur, h1, h2, h3, h4⟩
  · exact .inl h
  · exact .inr ⟨g, cap, cur, h1, h2, (hb.block g (blk_lt h3)).trans h3, h4⟩
theorem IR.below {w w' : World} {b : Nat} {v : Value} {l : List Int} (h : IR w b v l) (hb : Below w.heap.size w w') : IR w' b v l := own_belowM h hb
theorem own_addM (g j : Nat) : (⟨g, 0, none⟩ : Addr).add j = ⟨g, j, none⟩ := by
  unfold Addr.add
  by_cases h0 : j = 0 <;> simp [h0]
theorem own_isl {w : World} {b : Nat} {v : Value} {l : List Int} (h : IR w b v l) : ∃ A cap, v = .slice A l.length cap ∧ l.length ≤ cap ∧ ISl w A l := by
  rcases h.2 with ⟨rfl, hn⟩ | ⟨g, cap, cur, hv, _, _, hc, _⟩
  · exact ⟨none, 0, by rw [hn], by omega, fun i hi => absurd hi (by omega)⟩
  · subst hv
    refine ⟨_, cap, rfl, hc, fun i hi => ⟨g, 0, rfl, ?_⟩⟩
    have h1 := h.cells (g := g) rfl i (iv l[i]) (by rw [List.getElem?_map, List.getElem?_eq_getElem hi]; rfl)
    rw [own_addM] at h1
    rw [Nat.zero_add]
    exact h1
theorem IR.snoc {w : World} {b g cap : Nat} {l : List Int} {x : Int} (h : w.ownsRow b 3 1 (.slice (some ⟨g, 0, none⟩) (l.length + 1) cap) (l.length + 1) (l.map iv ++ [.int .i64 x])) : IR w b (.slice (some ⟨g, 0, none⟩) (l.length + 1) cap) (l ++ [x]) := by
  unfold IR
  rw [List.length_append, List.map_append]
  exact h
theorem one_int {x : Int} : ∀ u ∈ [Value.int .i64 x], u.oneCell' = true := by
  intro u hu
  simp only [List.mem_singleton] at hu
  subst hu; rfl
theorem lies_int {w : World} {x : Int} : ∀ (j : Nat) (u : Value), [Value.int .i64 x][j]? = some u → (w.alloc (.cells #[.int .i64 x] 3)).cell? ((⟨w.heap.size, 0, none⟩ : Addr).add j) = some u := by
  intro j u hu
  rw [own_addM]
  exact ((Bx.new w 3 [.int .i64 x]).cell j).trans hu
/-- The places that are true. -/
def marks (f : Nat → Bool) : Nat → List Int
  | 0 => []
  | n + 1 => marks f n ++ (if f n then [(n : Int)] else [])
theorem marks_len (f : Nat → Bool) : ∀ n, (marks f n).length ≤ n
  | 0 => Nat.le_refl _
  | n + 1 => by
    have := marks_len f n
    rw [marks, List.length_append]
    split <;> simp <;> omega
theorem marks_congr {f g : Nat → Bool} : ∀ {n : Nat}, (∀ i, i < n → f i = g i) → marks f n = marks g n
  | 0, _ => rfl
  | n + 1, h => by rw [marks, marks, marks_congr (fun i hi => h i (by omega)), h n (by omega)]
theorem marks_mem {f : Nat → Bool} {x : Int} : ∀ {n : Nat}, x ∈ marks f n ↔ ∃ i, i < n ∧ f i = true ∧ x = (i : Int)
  | 0 => by simp [marks]
  | n + 1 => by
    rw [marks, List.mem_append, marks_mem]
    constructor
    · rintro (⟨i, h1, h2, h3⟩ | h)
      · exact ⟨i, by omega, h2, h3⟩
      · by_cases hf : f n = true
        · rw [if_pos hf, List.mem_singleton] at h
          exact ⟨n, by omega, hf, h⟩
        · rw [if_neg hf] at h
          exact absurd h (by simp)
    · rintro ⟨i, h1, h2, h3⟩
      by_cases e : i = n
      · subst e
        right
        rw [if_pos h2, List.mem_singleton]
        exact h3
      · exact .inl ⟨i, by omega, h2, h3⟩
/-- Truths by place in a block. -/
def Bools (w : World) (q n : Nat) (f : Nat → Bool) : Prop := Bx w q 4 ((List.range n).map fun i => .bool (f i))
theorem Bools.cell {w : World} {q n : Nat} {f : Nat → Bool} (h : Bools w q n f) {i : Nat} (hi : i < n) : w.cell? ⟨q, i, none⟩ = some (.bool (f i)) := by
  rw [Bx.cell h i, List.getElem?_map, List.getElem?_range hi]; rfl
theorem Bools.below {w w' : World} {q n : Nat} {f : Nat → Bool} (h : Bools w q n f) (hb : Below w.heap.size w w') : Bools w' q n f := Bx.below h hb
theorem Bools.set {w : World} {q n : Nat} {f : Nat → Bool} (h : Bools w q n f) (i : Nat) : Bools (w.setCell ⟨q, i, none⟩ (.bool true)) q n (fun j => if i = j then true else f j) := by
  have h1 := Bx.set h i (.bool true)
  have e : ((List.range n).map fun i => Value.bool (f i)).set i (.bool true) = (List.range n).map fun j => Value.bool (if i = j then true else f j) := by
    apply List.ext_getElem
    · simp
    · intro j h1 h2
      rw [List.getElem_set, List.getElem_map, List.getElem_range, List.getElem_map, List.getElem_range]
      split <;> rfl
  rw [e] at h1
  exact h1
theorem bools_made {w : World} {q n : Nat} (h : Bx w q 4 (List.replicate n (.bool false))) : Bools w q n (fun _ => false) := by
  have e : (List.range n).map (fun _ => Value.bool false) = List.replicate n (.bool false) := by
    rw [List.eq_replicate_iff]
    refine ⟨by simp, fun u hu => ?_⟩
    obtain ⟨j, _, rfl⟩ := List.mem_map.1 hu
    rfl
  unfold Bools
  rw [e]
  exact h
theorem infoB : (Tryd.prog.info? 4).map (fun i => (i.zero, i.size, i.bytes)) = some (some (.bool false), 1, 1) := by kernel_rfl
def MkRel (f : Nat → Bool) (n : Nat) (w : World) (v i : Value) (wr : World) : Prop :=
  ∃ k : Nat, i = .int .i64 (k : Int) ∧ k ≤ n ∧ IR wr w.heap.size v (marks f k) ∧ Below w.heap.size w wr
def IntsP (l : List Int) (w : World) (e : Ending) (w' : World) : Prop := ∃ v, e = .returned v ∧ IR w' w.heap.size v l ∧ Below w.heap.size w w'
set_option maxHeartbeats 4000000 in
theorem marked_any {q n cap : Nat} {f : Nat → Bool} (w : World) (h : Bools w q n f) (hn : n ≤ 1000000) : Calls Tryd.prog 25 #[.slice (some ⟨q, 0, none⟩) n cap] w (IntsP (marks f n) w) := by
  obtain ⟨i0, hi0, hz⟩ := Option.map_eq_some_iff.1 infoI
  simp only [Prod.mk.injEq] at hz
  obtain ⟨hz0, hz1, hz2⟩ := hz
  have HI := Lib.hid hi0
  have HZ0 := Lib.hid hz0
  have HZ1 := Lib.hid hz1
  have HZ2 := Lib.hid hz2
  have H := Lib.hid h
  clear h hi0 hz0 hz1 hz2
  go_enter Tryd.func25, Tryd.ntmps25
  go_wp2
  go_loopw [3, 8] (fun v i wr => MkRel f n w v i wr) (fun _ i _ => n - (intOf i).toNat)
  case atStart => exact ⟨0, rfl, Nat.zero_le _, IR.nil _ _, Below.refl _ _⟩
  case round =>
    obtain ⟨k, rfl, hk, hr, hb⟩ := hrel
    have HR := Lib.hid hr
    have HB := Lib.hid hb
    have hz := hb.size
    clear hr hb
    by_cases hlt : k < n
    · have d1 : decide (k < n) = true := by simp; omega
      have c1 := cell_blw HB.out (H.out.cell hlt)
      cases hf : f k with
      | true =>
        rw [hf] at c1
        have HM := Lib.hid (show marks f (k + 1) = marks f k ++ [(k : Int)] by rw [marks, hf]; rfl)
        have HO := Lib.hid (HR.out.below (below_alloc wr (.cells #[.int .i64 (k : Int)] 3)))
        have hml := marks_len f k
        generalize marks f k = l at *
        unfold IR at HO
        clear hf hk
        go_wp2_with (at_builtin; refine wpList_append_lies _ rfl _ _ 36 rfl w.heap.size 3 i0 (.int .i64 0) 1 8 Tryd.underlying36 HI.out HZ0.out HZ1.out HZ2.out rfl (by decide) _ _ _ rfl HO.out ⟨wr.heap.size, 0, none⟩ 1 1 [.int .i64 (k : Int)] rfl rfl ?c1 ?c2 (by omega) ?c3 ?c4 ?c5 (wr.heap.size + 1) (by simp) ?_)
        case c1 => exact lies_int
        case c2 => exact one_int
        case c3 => unfold maxLen; omega
        case c4 => omega
        case c5 => simp; omega
        intro g cap2 w3 hown hgrow hat hlt3
        have HR3 := Lib.hid (IR.snoc hown)
        have HB3 := Lib.hid ((HB.out.alloc hz (.cells #[.int .i64 (k : Int)] 3)).grown hgrow (by simp; omega) (fun j hj => (HO.out.lt j hj).1))
        clear hown hgrow hat
        go_wp2
        go_roundw
        case rel => exact ⟨k + 1, by go_num, by omega, by rw [HM.out]; exact HR3.out, HB3.out⟩
        case measure => simp [intOf]; omega
      | false =>
        rw [hf] at c1
        have HM := Lib.hid (show marks f (k + 1) = marks f k by rw [marks, hf]; simp)
        clear hf hk
        go_wp2
        go_roundw
        case rel => exact ⟨k + 1, by go_num, by omega, by rw [HM.out]; exact HR.out, HB.out⟩
        case measure => simp [intOf]; omega
    · have d1 : decide (k < n) = false := by simp; omega
      have hkn : k = n := by omega
      subst hkn
      clear hlt hk
      go_wp2
      go_ret
      exact ⟨_, rfl, HR.out, HB.out⟩
end Go.Proofs.YtkgjpimapfmeoaaDoor
