/-
  The document's own sets: With, by its three kinds.
-/
import Derived.Test.YtmdmanhjgbpgoaaDoorR2
namespace Go.Proofs.YtmdmanhjgbpgoaaDoor
open Go.RowKit

def mixF (f f' : Nat → Bool) (k : Nat) : Nat → Bool := fun j => if j < k then f' j else f j
theorem mixF_zero (f f' : Nat → Bool) (j : Nat) : mixF f f' 0 j = f j := by unfold mixF; rw [if_neg (by omega)]
theorem mixF_succ (f f' : Nat → Bool) (k j : Nat) : setF (mixF f f' k) k (f' k) j = mixF f f' (k + 1) j := by
  unfold setF mixF
  by_cases h : j = k
  · subst h; rw [if_pos rfl, if_pos (by omega)]
  · rw [if_neg h]
    by_cases h2 : j < k
    · rw [if_pos h2, if_pos (by omega)]
    · rw [if_neg h2, if_neg (by omega)]
theorem mixF_full (f f' : Nat → Bool) (n j : Nat) (ho : ∀ k, n ≤ k → f k = f' k) : mixF f f' n j = f' j := by
  unfold mixF; split
  · rfl
  · exact ho j (by omega)
theorem chgF_succ (f f' : Nat → Bool) (k : Nat) : chgF (k + 1) f f' = (chgF k f f' || (f k != f' k)) := by
  unfold chgF; rw [List.range_succ, List.any_append]; simp
/-- The other one stays while block c is written. -/
def RApart (c : Nat) (w : World) (T : Value) (g : Nat → Bool) : Prop := ∀ w', Only c w w' → RefT w' T g
theorem rapart_nil (c : Nat) (w : World) (g : Nat → Bool) (hg : ∀ j, g j = false) : RApart c w (.slice none 0 0) g := fun _ _ => .inl ⟨rfl, hg⟩
theorem rapart_at {c ct nt : Nat} {w : World} {T : Value} {g : Nat → Bool} (h : RefAt w T ct nt g) (hne : ct ≠ c) : RApart c w T g := fun _ ho => .inr ⟨ct, nt, h.only ho hne⟩

abbrev boxW (w : World) (L T : Value) : World := (w.alloc (.cells #[L] 33)).alloc (.cells #[T] 33)
theorem only_box {c : Nat} {w wr : World} {L T : Value} (hc : c < w.heap.size) (h : Only c (boxW w L T) wr) : Only c w wr := by
  refine ⟨h.os, h.tape, h.output, ?_, fun i hi hne => ?_⟩
  · have := h.size; simp at this; omega
  · rw [h.block i (by simp; omega) hne, Below.heap_alloc _ _ _ (by simp; omega), Below.heap_alloc _ _ _ hi]
def WithRel (f f' : Nat → Bool) (n c : Nat) (L T : Value) (w : World) (g i : Value) (wr : World) : Prop :=
  ∃ k : Nat, k ≤ n ∧ i = .int .i64 (k : Int) ∧ g = .bool (chgF k f f') ∧ Only c (boxW w L T) wr ∧ RefAt wr L c n (mixF f f' k)
def WithPost (f f' : Nat → Bool) (n c : Nat) (L : Value) (w : World) (e : Ending) (w' : World) : Prop :=
  e = .returned (.bool (chgF n f f')) ∧ Only c w w' ∧ RefAt w' L c n f'

set_option maxHeartbeats 1000000 in
theorem with_join {w : World} {L T : Value} {c n : Nat} {f g : Nat → Bool} (h : RefAt w L c n f) (hT : RApart c w T g) :
    Calls Tryd.prog 13 #[.agg #[L], .int .i64 0, .agg #[T]] w (WithPost f (joinF f g n) n c L w) := by
  have HR0 := Lib.hid h
  have HT := Lib.hid hT
  have hv := h.val
  have hcl := h.lt_c
  have hle := h.le
  have HOUT := Lib.hid (show ∀ k, n ≤ k → f k = joinF f g n k from fun k hk => by
    have hd : decide (k < n) = false := by simp; omega
    simp [joinF, h.out k hk, hd])
  have HFK := Lib.hid (show ∀ k, k < n → joinF f g n k = (f k || g k) from fun k hk => by simp [joinF, hk])
  clear h hT
  generalize hff : joinF f g n = f' at *
  clear hff
  subst hv
  go_enter Tryd.func13, Tryd.ntmps13
  go_wp2
  go_loopw [7, 8] (fun t i wr => WithRel f f' n c (.slice (some ⟨c, 0, none⟩) n n) T w t i wr) (fun _ i _ => n - (intOf i).toNat)
  case atStart => exact ⟨0, Nat.zero_le _, rfl, rfl, only_refl c _, (HR0.out.of_heap (by rw [Below.heap_alloc _ _ _ (by simp; omega), Below.heap_alloc _ _ _ hcl])).congr (fun j => (mixF_zero f f' j).symm)⟩
  case round =>
    obtain ⟨k, hk, rfl, rfl, ho, hra⟩ := hrel
    have HO := Lib.hid ho
    have HR := Lib.hid hra
    have hsz : w.heap.size + 2 ≤ wr.heap.size := by have := ho.size; simpa using this
    have b1 : wr.cell? ⟨w.heap.size, 0, none⟩ = some (.slice (some ⟨c, 0, none⟩) n n) := by
      rw [World.cell?_of_block (w := boxW w (.slice (some ⟨c, 0, none⟩) n n) T) (ho.block w.heap.size (by simp <;> omega) (by intro e; injection e with e; omega))]; simp
    have b2 : wr.cell? ⟨w.heap.size + 1, 0, none⟩ = some T := by
      rw [World.cell?_of_block (w := boxW w (.slice (some ⟨c, 0, none⟩) n n) T) (ho.block (w.heap.size + 1) (by simp <;> omega) (by intro e; injection e with e; omega))]; simp
    clear ho hra
    by_cases hlt : k < n
    · have hc := HR.out.cell k hlt
      have hmk : mixF f f' k k = f k := by unfold mixF; rw [if_neg (by omega)]
      rw [hmk] at hc
      have hfz := HR.out.frozen k
      have k0 : (0 : Int) ≤ (k : Int) := by omega
      have k1 : (k : Int) < (n : Int) := by omega
      have HFK1 := Lib.hid (HFK.out k hlt)
      have HCS := Lib.hid (chgF_succ f f' k)
      have HMS := Lib.hid (mixF_succ f f' k)
      have hTr := HT.out wr (only_box hcl HO.out)
      have HTr := Lib.hid hTr
      have emg : memI g (k : Int) = g k := by simp [memI]
      have HEM := Lib.hid emg
      clear hmk hTr emg
      go_wp2_with fail
      refine (refHas_any HTr.out _).mono ?_
      rintro e w3 ⟨rfl, hw3⟩
      rw [HEM.out]
      have HO3 := Lib.hid (show Only c (boxW w (.slice (some ⟨c, 0, none⟩) n n) T) w3 by rw [hw3]; exact only_alloc HO.out _)
      have HR3 := Lib.hid (show RefAt w3 (.slice (some ⟨c, 0, none⟩) n n) c n (mixF f f' k) by rw [hw3]; exact HR.out.of_heap (Below.heap_alloc _ _ _ HR.out.lt_c))
      have b13 : w3.cell? ⟨w.heap.size, 0, none⟩ = some (.slice (some ⟨c, 0, none⟩) n n) := by rw [hw3, World.cell?_alloc_lt _ _ ⟨w.heap.size, 0, none⟩ (by show w.heap.size < _; omega)]; exact b1
      have b23 : w3.cell? ⟨w.heap.size + 1, 0, none⟩ = some T := by rw [hw3, World.cell?_alloc_lt _ _ ⟨w.heap.size + 1, 0, none⟩ (by show w.heap.size + 1 < _; omega)]; exact b2
      have hc3 : w3.cell? ⟨c, k, none⟩ = some (.bool (f k)) := by rw [hw3, World.cell?_alloc_lt _ _ ⟨c, k, none⟩ (by show c < _; omega)]; exact hc
      have hf3 := HR3.out.frozen k
      clear hw3 b1 b2 hc hfz
      cases hg : g k
      all_goals cases hf : f k
      all_goals cases hch : chgF k f f'
      all_goals
        rw [hf] at hc3
        have HG := Lib.hid hg
        have HF := Lib.hid hf
        have HCH := Lib.hid hch
        clear hg hf hch
        go_wp2
        go_roundw
        case rel =>
          have e1 := HFK1.out
          rw [HG.out, HF.out] at e1
          refine ⟨k + 1, by omega, by go_num, ?_, only_setCell HO3.out rfl _, ?_⟩
          · rw [HCS.out, HCH.out, HF.out, e1]; rfl
          · have h4 := (HR3.out.set k (f' k) hlt).congr HMS.out
            rw [e1] at h4
            exact h4
        case measure => simp [intOf]; omega
    · have hd : decide (k < n) = false := by simp; omega
      have ek : k = n := by omega
      have HE := Lib.hid ek
      clear ek
      go_wp2
      go_ret
      have h4 := HR.out
      rw [HE.out] at h4 ⊢
      exact ⟨rfl, only_box hcl HO.out, h4.congr (fun j => mixF_full f f' n j HOUT.out)⟩

set_option maxHeartbeats 1000000 in
theorem with_minus {w : World} {L T : Value} {c n : Nat} {f g : Nat → Bool} (h : RefAt w L c n f) (hT : RApart c w T g) :
    Calls Tryd.prog 13 #[.agg #[L], .int .i64 1, .agg #[T]] w (WithPost f (minusF f g n) n c L w) := by
  have HR0 := Lib.hid h
  have HT := Lib.hid hT
  have hv := h.val
  have hcl := h.lt_c
  have hle := h.le
  have HOUT := Lib.hid (show ∀ k, n ≤ k → f k = minusF f g n k from fun k hk => by
    have hd : decide (k < n) = false := by simp; omega
    simp [minusF, h.out k hk, hd])
  have HFK := Lib.hid (show ∀ k, k < n → minusF f g n k = (f k && !g k) from fun k hk => by simp [minusF, hk])
  clear h hT
  generalize hff : minusF f g n = f' at *
  clear hff
  subst hv
  go_enter Tryd.func13, Tryd.ntmps13
  go_wp2
  go_loopw [7, 8] (fun t i wr => WithRel f f' n c (.slice (some ⟨c, 0, none⟩) n n) T w t i wr) (fun _ i _ => n - (intOf i).toNat)
  case atStart => exact ⟨0, Nat.zero_le _, rfl, rfl, only_refl c _, (HR0.out.of_heap (by rw [Below.heap_alloc _ _ _ (by simp; omega), Below.heap_alloc _ _ _ hcl])).congr (fun j => (mixF_zero f f' j).symm)⟩
  case round =>
    obtain ⟨k, hk, rfl, rfl, ho, hra⟩ := hrel
    have HO := Lib.hid ho
    have HR := Lib.hid hra
    have hsz : w.heap.size + 2 ≤ wr.heap.size := by have := ho.size; simpa using this
    have b1 : wr.cell? ⟨w.heap.size, 0, none⟩ = some (.slice (some ⟨c, 0, none⟩) n n) := by
      rw [World.cell?_of_block (w := boxW w (.slice (some ⟨c, 0, none⟩) n n) T) (ho.block w.heap.size (by simp <;> omega) (by intro e; injection e with e; omega))]; simp
    have b2 : wr.cell? ⟨w.heap.size + 1, 0, none⟩ = some T := by
      rw [World.cell?_of_block (w := boxW w (.slice (some ⟨c, 0, none⟩) n n) T) (ho.block (w.heap.size + 1) (by simp <;> omega) (by intro e; injection e with e; omega))]; simp
    clear ho hra
    by_cases hlt : k < n
    · have hc := HR.out.cell k hlt
      have hmk : mixF f f' k k = f k := by unfold mixF; rw [if_neg (by omega)]
      rw [hmk] at hc
      have hfz := HR.out.frozen k
      have k0 : (0 : Int) ≤ (k : Int) := by omega
      have k1 : (k : Int) < (n : Int) := by omega
      have HFK1 := Lib.hid (HFK.out k hlt)
      have HCS := Lib.hid (chgF_succ f f' k)
      have HMS := Lib.hid (mixF_succ f f' k)
      have hTr := HT.out wr (only_box hcl HO.out)
      have HTr := Lib.hid hTr
      have emg : memI g (k : Int) = g k := by simp [memI]
      have HEM := Lib.hid emg
      clear hmk hTr emg
      go_wp2_with fail
      refine (refHas_any HTr.out _).mono ?_
      rintro e w3 ⟨rfl, hw3⟩
      rw [HEM.out]
      have HO3 := Lib.hid (show Only c (boxW w (.slice (some ⟨c, 0, none⟩) n n) T) w3 by rw [hw3]; exact only_alloc HO.out _)
      have HR3 := Lib.hid (show RefAt w3 (.slice (some ⟨c, 0, none⟩) n n) c n (mixF f f' k) by rw [hw3]; exact HR.out.of_heap (Below.heap_alloc _ _ _ HR.out.lt_c))
      have b13 : w3.cell? ⟨w.heap.size, 0, none⟩ = some (.slice (some ⟨c, 0, none⟩) n n) := by rw [hw3, World.cell?_alloc_lt _ _ ⟨w.heap.size, 0, none⟩ (by show w.heap.size < _; omega)]; exact b1
      have b23 : w3.cell? ⟨w.heap.size + 1, 0, none⟩ = some T := by rw [hw3, World.cell?_alloc_lt _ _ ⟨w.heap.size + 1, 0, none⟩ (by show w.heap.size + 1 < _; omega)]; exact b2
      have hc3 : w3.cell? ⟨c, k, none⟩ = some (.bool (f k)) := by rw [hw3, World.cell?_alloc_lt _ _ ⟨c, k, none⟩ (by show c < _; omega)]; exact hc
      have hf3 := HR3.out.frozen k
      clear hw3 b1 b2 hc hfz
      cases hg : g k
      all_goals cases hf : f k
      all_goals cases hch : chgF k f f'
      all_goals
        rw [hf] at hc3
        have HG := Lib.hid hg
        have HF := Lib.hid hf
        have HCH := Lib.hid hch
        clear hg hf hch
        go_wp2
        go_roundw
        case rel =>
          have e1 := HFK1.out
          rw [HG.out, HF.out] at e1
          refine ⟨k + 1, by omega, by go_num, ?_, only_setCell HO3.out rfl _, ?_⟩
          · rw [HCS.out, HCH.out, HF.out, e1]; rfl
          · have h4 := (HR3.out.set k (f' k) hlt).congr HMS.out
            rw [e1] at h4
            exact h4
        case measure => simp [intOf]; omega
    · have hd : decide (k < n) = false := by simp; omega
      have ek : k = n := by omega
      have HE := Lib.hid ek
      clear ek
      go_wp2
      go_ret
      have h4 := HR.out
      rw [HE.out] at h4 ⊢
      exact ⟨rfl, only_box hcl HO.out, h4.congr (fun j => mixF_full f f' n j HOUT.out)⟩

set_option maxHeartbeats 1000000 in
theorem with_meet {w : World} {L T : Value} {c n : Nat} {f g : Nat → Bool} (h : RefAt w L c n f) (hT : RApart c w T g) :
    Calls Tryd.prog 13 #[.agg #[L], .int .i64 2, .agg #[T]] w (WithPost f (meetF f g n) n c L w) := by
  have HR0 := Lib.hid h
  have HT := Lib.hid hT
  have hv := h.val
  have hcl := h.lt_c
  have hle := h.le
  have HOUT := Lib.hid (show ∀ k, n ≤ k → f k = meetF f g n k from fun k hk => by
    have hd : decide (k < n) = false := by simp; omega
    simp [meetF, h.out k hk, hd])
  have HFK := Lib.hid (show ∀ k, k < n → meetF f g n k = (f k && g k) from fun k hk => by simp [meetF, hk])
  clear h hT
  generalize hff : meetF f g n = f' at *
  clear hff
  subst hv
  go_enter Tryd.func13, Tryd.ntmps13
  go_wp2
  go_loopw [7, 8] (fun t i wr => WithRel f f' n c (.slice (some ⟨c, 0, none⟩) n n) T w t i wr) (fun _ i _ => n - (intOf i).toNat)
  case atStart => exact ⟨0, Nat.zero_le _, rfl, rfl, only_refl c _, (HR0.out.of_heap (by rw [Below.heap_alloc _ _ _ (by simp; omega), Below.heap_alloc _ _ _ hcl])).congr (fun j => (mixF_zero f f' j).symm)⟩
  case round =>
    obtain ⟨k, hk, rfl, rfl, ho, hra⟩ := hrel
    have HO := Lib.hid ho
    have HR := Lib.hid hra
    have hsz : w.heap.size + 2 ≤ wr.heap.size := by have := ho.size; simpa using this
    have b1 : wr.cell? ⟨w.heap.size, 0, none⟩ = some (.slice (some ⟨c, 0, none⟩) n n) := by
      rw [World.cell?_of_block (w := boxW w (.slice (some ⟨c, 0, none⟩) n n) T) (ho.block w.heap.size (by simp <;> omega) (by intro e; injection e with e; omega))]; simp
    have b2 : wr.cell? ⟨w.heap.size + 1, 0, none⟩ = some T := by
      rw [World.cell?_of_block (w := boxW w (.slice (some ⟨c, 0, none⟩) n n) T) (ho.block (w.heap.size + 1) (by simp <;> omega) (by intro e; injection e with e; omega))]; simp
    clear ho hra
    by_cases hlt : k < n
    · have hc := HR.out.cell k hlt
      have hmk : mixF f f' k k = f k := by unfold mixF; rw [if_neg (by omega)]
      rw [hmk] at hc
      have hfz := HR.out.frozen k
      have k0 : (0 : Int) ≤ (k : Int) := by omega
      have k1 : (k : Int) < (n : Int) := by omega
      have HFK1 := Lib.hid (HFK.out k hlt)
      have HCS := Lib.hid (chgF_succ f f' k)
      have HMS := Lib.hid (mixF_succ f f' k)
      have hTr := HT.out wr (only_box hcl HO.out)
      have HTr := Lib.hid hTr
      have emg : memI g (k : Int) = g k := by simp [memI]
      have HEM := Lib.hid emg
      clear hmk hTr emg
      go_wp2_with fail
      refine (refHas_any HTr.out _).mono ?_
      rintro e w3 ⟨rfl, hw3⟩
      rw [HEM.out]
      have HO3 := Lib.hid (show Only c (boxW w (.slice (some ⟨c, 0, none⟩) n n) T) w3 by rw [hw3]; exact only_alloc HO.out _)
      have HR3 := Lib.hid (show RefAt w3 (.slice (some ⟨c, 0, none⟩) n n) c n (mixF f f' k) by rw [hw3]; exact HR.out.of_heap (Below.heap_alloc _ _ _ HR.out.lt_c))
      have b13 : w3.cell? ⟨w.heap.size, 0, none⟩ = some (.slice (some ⟨c, 0, none⟩) n n) := by rw [hw3, World.cell?_alloc_lt _ _ ⟨w.heap.size, 0, none⟩ (by show w.heap.size < _; omega)]; exact b1
      have b23 : w3.cell? ⟨w.heap.size + 1, 0, none⟩ = some T := by rw [hw3, World.cell?_alloc_lt _ _ ⟨w.heap.size + 1, 0, none⟩ (by show w.heap.size + 1 < _; omega)]; exact b2
      have hc3 : w3.cell? ⟨c, k, none⟩ = some (.bool (f k)) := by rw [hw3, World.cell?_alloc_lt _ _ ⟨c, k, none⟩ (by show c < _; omega)]; exact hc
      have hf3 := HR3.out.frozen k
      clear hw3 b1 b2 hc hfz
      cases hg : g k
      all_goals cases hf : f k
      all_goals cases hch : chgF k f f'
      all_goals
        rw [hf] at hc3
        have HG := Lib.hid hg
        have HF := Lib.hid hf
        have HCH := Lib.hid hch
        clear hg hf hch
        go_wp2
        go_roundw
        case rel =>
          have e1 := HFK1.out
          rw [HG.out, HF.out] at e1
          refine ⟨k + 1, by omega, by go_num, ?_, only_setCell HO3.out rfl _, ?_⟩
          · rw [HCS.out, HCH.out, HF.out, e1]; rfl
          · have h4 := (HR3.out.set k (f' k) hlt).congr HMS.out
            rw [e1] at h4
            exact h4
        case measure => simp [intOf]; omega
    · have hd : decide (k < n) = false := by simp; omega
      have ek : k = n := by omega
      have HE := Lib.hid ek
      clear ek
      go_wp2
      go_ret
      have h4 := HR.out
      rw [HE.out] at h4 ⊢
      exact ⟨rfl, only_box hcl HO.out, h4.congr (fun j => mixF_full f f' n j HOUT.out)⟩
end Go.Proofs.YtmdmanhjgbpgoaaDoor
