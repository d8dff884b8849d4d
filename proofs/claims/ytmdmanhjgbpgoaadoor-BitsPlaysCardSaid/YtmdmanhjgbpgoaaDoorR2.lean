/-
  The document's own sets: Items and Of.
-/
import Derived.Test.YtmdmanhjgbpgoaaDoorR1
namespace Go.Proofs.YtmdmanhjgbpgoaaDoor
open Go.RowKit

def RItemsF (n : Nat) (f : Nat → Bool) (w : World) (e : Ending) (w' : World) : Prop :=
  ∃ v, e = .returned v ∧ Reads w' v ((its n f).map (fun x : Nat => (x : Int))) ∧ Below w.heap.size w w'
def RItemsRel (n : Nat) (f : Nat → Bool) (L : Value) (w : World) (v i : Value) (wr : World) : Prop :=
  ∃ k : Nat, k ≤ n ∧ i = .int .i64 (k : Int) ∧ wr.ownsRow (w.heap.size + 1) 3 1 v (its k f).length ((its k f).map I64) ∧ Below (w.heap.size + 1) (w.alloc (.cells #[L] 33)) wr
theorem its_succ (f : Nat → Bool) (k : Nat) : its (k + 1) f = if f k then its k f ++ [k] else its k f := by
  unfold its; rw [List.range_succ, List.filter_append]
  cases h : f k <;> simp [h]
theorem below_box {w wr : World} {L : Value} (h : Below (w.heap.size + 1) (w.alloc (.cells #[L] 33)) wr) : Below w.heap.size w wr := ((Below.refl w.heap.size w).alloc (Nat.le_refl _) _).trans (h.mono (by omega))

set_option maxHeartbeats 400000 in
theorem refItems_any {w : World} {L : Value} {c n : Nat} {f : Nat → Bool} (h : RefAt w L c n f) :
    Calls Tryd.prog 23 #[.agg #[L]] w (RItemsF n f w) := by
  obtain ⟨i0, hi0, hz⟩ := Option.map_eq_some_iff.1 info3
  simp only [Prod.mk.injEq] at hz
  obtain ⟨hz0, hz1, hz2⟩ := hz
  have HZ0 := Lib.hid hz0
  have HZ1 := Lib.hid hz1
  have HZ2 := Lib.hid hz2
  have HI := Lib.hid hi0
  have HR := Lib.hid h
  have hv := h.val
  have hcl := h.lt_c
  have hle := h.le
  clear hz0 hz1 hz2 hi0 h
  subst hv
  go_enter Tryd.func23, Tryd.ntmps23
  go_wp2
  go_loopw [3, 4] (fun v i wr => RItemsRel n f (.slice (some ⟨c, 0, none⟩) n n) w v i wr) (fun _ i _ => n - (intOf i).toNat)
  case atStart => exact ⟨0, Nat.zero_le _, rfl, World.ownsRow_nil _ _ _ _, Below.refl _ _⟩
  case round =>
    obtain ⟨k, hk, rfl, hown, hbel⟩ := hrel
    have HO := Lib.hid hown
    have HB := Lib.hid hbel
    have hbs : w.heap.size + 1 ≤ wr.heap.size := by have := hbel.size; simpa using this
    have hbox : wr.cell? ⟨w.heap.size, 0, none⟩ = some (.slice (some ⟨c, 0, none⟩) n n) := (hbel.cell (p := ⟨w.heap.size, 0, none⟩) (by show w.heap.size < w.heap.size + 1; omega)).trans (by simp)
    have hil := its_le k f
    clear hown hbel
    by_cases hlt : k < n
    · have hc : wr.cell? ⟨c, k, none⟩ = some (.bool (f k)) := ((below_box HB.out).cell (p := ⟨c, k, none⟩) hcl).trans (HR.out.cell k hlt)
      have k0 : (0 : Int) ≤ (k : Int) := by omega
      have k1 : (k : Int) < (n : Int) := by omega
      have HS := Lib.hid (its_succ f k)
      cases hf : f k with
      | true =>
        rw [hf] at hc
        have HF := Lib.hid hf
        clear hf
        go_wp2_with (at_builtin; refine wpList_append_own _ rfl _ _ 22 rfl (w.heap.size + 1) 3 i0 (.int .i64 0) 1 8 Tryd.underlying22 HI.out HZ0.out HZ1.out HZ2.out rfl (by decide) _ _ _ rfl (HO.out.alloc _) ⟨wr.heap.size, 0, none⟩ 1 1 [.int .i64 (k : Int)] rfl rfl ?c1 ?c2 ?c3 ?c4 ?c5 ?_)
        case c1 =>
          intro j u hj
          match j, hj with
          | 0, hj => simp at hj; subst hj; simp [Addr.add]
        case c2 => intro u hu; simp at hu; subst hu; rfl
        case c3 => unfold maxLen; omega
        case c4 => omega
        case c5 => simp; omega
        intro v' w3 hown' hgrow _
        have HB3 := Lib.hid ((HB.out.alloc hbs (.cells #[.int .i64 (k : Int)] 3)).grown hgrow (by simp; omega) (fun _ h => (HO.out.lt _ h).1))
        have HO3 := Lib.hid hown'
        clear hown' hgrow
        go_wp2
        go_roundw
        case rel =>
          refine ⟨k + 1, by omega, by go_num, ?_, HB3.out⟩
          rw [HS.out, HF.out, if_pos rfl, List.length_append, List.map_append]; exact HO3.out
        case measure => simp [intOf]; omega
      | false =>
        rw [hf] at hc
        have HF := Lib.hid hf
        clear hf
        go_wp2
        go_roundw
        case rel =>
          refine ⟨k + 1, by omega, by go_num, ?_, HB.out⟩
          rw [HS.out, HF.out, if_neg (by simp)]; exact HO.out
        case measure => simp [intOf]; omega
    · have hd : decide (k < n) = false := by simp; omega
      have ek : k = n := by omega
      have HE := Lib.hid ek
      clear ek
      go_wp2
      go_ret
      have ho := HO.out
      rw [HE.out] at ho
      exact ⟨_, rfl, Reads.of_owns ho, below_box HB.out⟩

theorem info4 : (Tryd.prog.info? 4).map (fun i => (i.zero, i.size, i.bytes)) = some (some (.bool false), 1, 1) := by kernel_rfl
/-- What the document's Of hands back. -/
def ROfF (n : Nat) (xs : List Int) (w : World) (e : Ending) (w' : World) : Prop :=
  Below w.heap.size w w' ∧ ((Within n xs ∧ ∃ L c, w.heap.size ≤ c ∧ e = .returned (.tuple #[.agg #[L], .bool true]) ∧ RefAt w' L c n (hasL xs))
    ∨ (¬ Within n xs ∧ e = .returned (.tuple #[.agg #[.slice none 0 0], .bool false])))
set_option maxHeartbeats 400000 in
theorem refOf_size (i : Int) (v : Value) (w : World) (h : i < 0 ∨ 4096 < i) :
    Calls Tryd.prog 11 #[.int .i64 i, v] w fun e w' => e = .returned (.tuple #[.agg #[.slice none 0 0], .bool false]) ∧ Below w.heap.size w w' := by
  by_cases h0 : i < 0
  · clear h
    go_enter Tryd.func11, Tryd.ntmps11
    go_wp2
    exact bodyPost_ret (v := .tuple #[.agg #[.slice none 0 0], .bool false]) (by simp [results, Tryd.results11, go_sem]) rfl ⟨rfl, (Below.refl _ _).alloc (Nat.le_refl _) _⟩
  · have h1 : 4096 < i := by omega
    have h2 : decide (i < 0) = false := by simp; omega
    clear h
    go_enter Tryd.func11, Tryd.ntmps11
    go_wp2
    exact bodyPost_ret (v := .tuple #[.agg #[.slice none 0 0], .bool false]) (by simp [results, Tryd.results11, go_sem]) rfl ⟨rfl, (Below.refl _ _).alloc (Nat.le_refl _) _⟩

def ROfRel (n : Nat) (xs : List Int) (w : World) (i : Value) (wr : World) : Prop :=
  ∃ k : Nat, k ≤ xs.length ∧ i = .int .i64 (k : Int) ∧ Below w.heap.size w wr ∧ Within n (xs.take k) ∧ RefAt wr (.slice (some ⟨w.heap.size + 1, 0, none⟩) n n) (w.heap.size + 1) n (hasL (xs.take k)) ∧
    wr.heap[w.heap.size]? = some (.cells #[.slice none 0 0] 33 (0, 0)) ∧ wr.heap[w.heap.size + 2]? = some (.cells #[.slice (some ⟨w.heap.size + 1, 0, none⟩) n n] 33 (0, 0))
theorem made_ref (w : World) (n : Nat) (hs : n ≤ 4096) : ROfRel n [] w (.int .i64 0) (((w.alloc (.cells #[.slice none 0 0] 33)).alloc (.cells (madeCells #[.bool false] n) 4)).alloc (.cells #[.slice (some ⟨w.heap.size + 1, 0, none⟩) n n] 33)) := by
  have h1 := heap_alloc_new (w.alloc (.cells #[.slice none 0 0] 33)) (.cells (madeCells #[.bool false] n) 4)
  have h2 := heap_alloc_new ((w.alloc (.cells #[.slice none 0 0] 33)).alloc (.cells (madeCells #[.bool false] n) 4)) (.cells #[.slice (some ⟨w.heap.size + 1, 0, none⟩) n n] 33)
  simp only [World.size_alloc] at h1 h2
  refine ⟨0, Nat.zero_le _, rfl, (((Below.refl _ _).alloc (Nat.le_refl _) _).alloc (by simp) _).alloc (by simp; omega) _, fun y hy => by simp at hy, ⟨rfl, hs, fun k _ => by simp [hasL], madeCells #[.bool false] n, ?_, size_madeCells _ _, ?_⟩, ?_, h2⟩
  · rw [Below.heap_alloc _ _ _ (by simp)]; exact h1
  · intro k hk; simp [madeCells, hasL, hk, Nat.mod_one]
  · rw [Below.heap_alloc _ _ _ (by simp; omega), Below.heap_alloc _ _ _ (by simp)]; exact heap_alloc_new _ _

set_option maxHeartbeats 400000 in
theorem refOf_set {w : World} (n : Nat) {v : Value} {xs : List Int} (hs : n ≤ 4096) (hv : Reads w v xs) (hx : xs.length ≤ 9223372036854775807) :
    Calls Tryd.prog 11 #[.int .i64 (n : Int), v] w (ROfF n xs w) := by
  obtain ⟨ad, cap, rfl, hv⟩ := hv
  have HV := Lib.hid hv
  clear hv
  have h2 : decide ((n : Int) < 0) = false := by simp
  have h3 : decide ((4096 : Int) < (n : Int)) = false := by simp; omega
  have hmk := run_make_row' (P := Tryd.prog) 31 4 (.bool false) 1 Tryd.underlying31 info4 rfl .i64 .i64 n (by omega) (by omega)
  go_enter Tryd.func11, Tryd.ntmps11
  go_wp2
  go_loopw [7] (fun i wr => ROfRel n xs w i wr) (fun i _ => xs.length - (intOf i).toNat)
  case atStart =>
    obtain ⟨k, hk, hi, h4⟩ := made_ref w n hs
    obtain rfl : k = 0 := by simpa using hk
    refine ⟨0, Nat.zero_le _, rfl, ?_⟩
    simpa using h4
  case round =>
    obtain ⟨k, hk, rfl, hbel, hwi, hra, hh0, hh2⟩ := hrel
    have HB := Lib.hid hbel
    have HW := Lib.hid hwi
    have HR := Lib.hid hra
    have HH0 := Lib.hid hh0
    have HH2 := Lib.hid hh2
    have hbs := hbel.size
    have c0 : wr.cell? ⟨w.heap.size, 0, none⟩ = some (.slice none 0 0) := by simp [World.cell?, hh0]
    have f0 : wr.frozen? ⟨w.heap.size, 0, none⟩ = false := by simp [World.frozen?, hh0]
    have c2 : wr.cell? ⟨w.heap.size + 2, 0, none⟩ = some (.slice (some ⟨w.heap.size + 1, 0, none⟩) n n) := by simp [World.cell?, hh2]
    have hsz2 : w.heap.size + 2 < wr.heap.size := (Array.getElem?_eq_some_iff.1 hh2).1
    clear hbel hwi hra hh0 hh2
    by_cases hlt : k < xs.length
    · obtain ⟨⟨pb, po, ps⟩, hp, hps, hc⟩ := HV.out k hlt
      simp only at hps hc
      subst hps
      have hpb := World.block_lt_of_cell? w _ hc
      have hc' := (HB.out.cell (p := ⟨pb, po + k, none⟩) hpb).trans hc
      have hpb' : pb < w.heap.size := hpb
      have HSN := Lib.hid (take_snocI xs k hlt)
      have HMM := Lib.hid (getD_mem xs k hlt)
      clear hc hpb
      generalize xs.getD k 0 = x at *
      have HHV := Lib.hid HV
      clear HV
      subst hp
      have k0 : (0 : Int) ≤ (k : Int) := by omega
      have k1 : (k : Int) < (xs.length : Int) := by omega
      by_cases hin : 0 ≤ x ∧ x < (n : Int)
      · obtain ⟨x0, x1⟩ := hin
        obtain ⟨q, rfl⟩ := Int.eq_ofNat_of_zero_le x0
        have hq : q < n := by omega
        have d1 : decide ((q : Int) < 0) = false := by simp
        have d2 : decide ((n : Int) ≤ (q : Int)) = false := by simp; omega
        have ct := HR.out.cell q hq
        have ft := HR.out.frozen q
        go_wp2
        go_region
        all_goals go_wp2
        all_goals
          refine ⟨⟨k + 1, by omega, by go_num, ?_, ?_, ?_, ?_, ?_⟩, by simp [intOf]; omega⟩
          · exact (HB.out.setCell (by show w.heap.size ≤ w.heap.size + 1; omega) _).drew
          · rw [HSN.out]; exact within_snoc HW.out x0 x1
          · refine RefAt.congr (f := setF (hasL (xs.take k)) q true) (RefAt.of_heap (HR.out.set q true hq) rfl) ?_
            intro j
            rw [HSN.out]
            unfold setF hasL
            by_cases hj : j = q
            · subst hj; rw [if_pos rfl]; simp
            · rw [if_neg hj, decide_eq_decide, List.mem_append, List.mem_singleton]
              constructor
              · exact .inl
              · rintro (h | h)
                · exact h
                · omega
          · exact (Below.heap_setCell _ _ _ _ (by show w.heap.size ≠ w.heap.size + 1; omega)).trans HH0.out
          · exact (Below.heap_setCell _ _ _ _ (by show w.heap.size + 2 ≠ w.heap.size + 1; omega)).trans HH2.out
      · have HIN := Lib.hid (show ¬ Within n xs from fun h => hin (h x HMM.out))
        by_cases hx0 : x < 0
        · have d1 : decide (x < 0) = true := by simp; omega
          clear hin
          go_wp2
          exact bodyPost_ret (v := .tuple #[.agg #[.slice none 0 0], .bool false]) (by simp [results, Tryd.results11, go_sem, c0, f0]) rfl ⟨by first | exact HB.out | exact HB.out.setCell (Nat.le_refl _) _, .inr ⟨HIN.out, rfl⟩⟩
        · have d1 : decide (x < 0) = false := by simp; omega
          have d2 : (n : Int) ≤ x := by omega
          clear hin
          go_wp2
          exact bodyPost_ret (v := .tuple #[.agg #[.slice none 0 0], .bool false]) (by simp [results, Tryd.results11, go_sem, c0, f0]) rfl ⟨by first | exact HB.out | exact HB.out.setCell (Nat.le_refl _) _, .inr ⟨HIN.out, rfl⟩⟩
    · have hd : decide (k < xs.length) = false := by simp; omega
      have e : xs.take k = xs := List.take_of_length_le (by omega)
      have hwi := HW.out
      have hra := HR.out
      rw [e] at hwi hra
      have HW2 := Lib.hid hwi
      have HR2 := Lib.hid hra
      clear hwi hra e
      go_wp2
      refine bodyPost_ret (v := .tuple #[.agg #[.slice (some ⟨w.heap.size + 1, 0, none⟩) n n], .bool true]) (by simp [results, Tryd.results11, go_sem, c0, f0]) rfl ⟨HB.out.setCell (Nat.le_refl _) _, .inl ⟨HW2.out, _, w.heap.size + 1, by omega, rfl, HR2.out.of_heap (Below.heap_setCell _ _ _ _ (by show w.heap.size + 1 ≠ w.heap.size; omega))⟩⟩
theorem refOf_int {w : World} (i : Int) {v : Value} {xs : List Int} (h0 : 0 ≤ i) (h1 : i ≤ 4096) (hv : Reads w v xs) (hx : xs.length ≤ 9223372036854775807) :
    Calls Tryd.prog 11 #[.int .i64 i, v] w (ROfF i.toNat xs w) := by
  obtain ⟨n, rfl⟩ := Int.eq_ofNat_of_zero_le h0
  rw [Int.toNat_natCast]
  exact refOf_set n (by omega) hv hx
end Go.Proofs.YtmdmanhjgbpgoaaDoor
