/-
  Of: of a size that may be and numbers below it the set of these numbers; else the error ErrArg; nothing that was there is changed.
-/
import Derived.Test.YtmdmanhjgbpgoaaDoorA2
namespace Go.Proofs.YtmdmanhjgbpgoaaDoor
open Go.RowKit

theorem SetF.congr {w : World} {b c size : Nat} {f g : Nat → Bool} (h : SetF w b c size f) (hfg : ∀ j, f j = g j) : SetF w b c size g := by
  obtain ⟨ws, hw, hm⟩ := h
  exact ⟨ws, hw, fun i => (hm i).trans (hfg i)⟩
theorem SetF.csize {w : World} {b c size : Nat} {f : Nat → Bool} (h : SetF w b c size f) : w.cell? ⟨b, 0, none⟩ = some (.int .i64 (size : Int)) := by
  obtain ⟨ws, hw, hm⟩ := h
  exact hw.csize
theorem SetF.le {w : World} {b c size : Nat} {f : Nat → Bool} (h : SetF w b c size f) : size ≤ 4096 := by
  obtain ⟨ws, hw, hm⟩ := h
  exact hw.le
theorem below_only {B c : Nat} {a w w' : World} (h : Below B a w) (ho : Only c w w') (hB : B ≤ w.heap.size) (hc : B ≤ c) : Below B a w' :=
  h.grown ho hB (fun k hk => by injection hk with hk; omega)

set_option maxHeartbeats 400000 in
theorem of_size (i : Int) (v : Value) (w : World) (h : i < 0 ∨ 4096 < i) :
    Calls Tryd.prog 10 #[.int .i64 i, v] w fun e w' => e = .returned (.tuple #[.pointer none, .iface 56 (.int .i64 1)]) ∧ w' = w := by
  go_enter Tryd.func10, Tryd.ntmps10
  go_wp2_with (go_at_call 28; refine (new_no _ _ h).mono ?_; rintro e w' ⟨rfl, rfl⟩)
  go_ret2
  exact ⟨rfl, rfl⟩

/-- All of these are numbers below a size. -/
def Within (size : Nat) (xs : List Int) : Prop := ∀ x ∈ xs, 0 ≤ x ∧ x < (size : Int)
def hasL (xs : List Int) (j : Nat) : Bool := decide ((j : Int) ∈ xs)
def OfF (size : Nat) (xs : List Int) (w : World) (e : Ending) (w' : World) : Prop :=
  Below w.heap.size w w' ∧ ((Within size xs ∧ e = .returned (.tuple #[.pointer (some ⟨w.heap.size + 1, 0, none⟩), .nilIface]) ∧ SetF w' (w.heap.size + 1) w.heap.size size (hasL xs))
    ∨ (¬ Within size xs ∧ e = .returned (.tuple #[.pointer none, .iface 56 (.int .i64 1)])))
def OfRel (size : Nat) (xs : List Int) (w : World) (i : Value) (wr : World) : Prop :=
  ∃ k : Nat, k ≤ xs.length ∧ i = .int .i64 (k : Int) ∧ Below w.heap.size w wr ∧ Within size (xs.take k) ∧ SetF wr (w.heap.size + 1) w.heap.size size (hasL (xs.take k))

theorem take_snocI (xs : List Int) (k : Nat) (h : k < xs.length) : xs.take (k + 1) = xs.take k ++ [xs.getD k 0] := by
  rw [List.take_succ_eq_append_getElem h]
  simp [List.getD_eq_getElem?_getD, List.getElem?_eq_getElem h]
theorem within_snoc {size : Nat} {xs : List Int} {x : Int} (h : Within size xs) (h0 : 0 ≤ x) (h1 : x < size) : Within size (xs ++ [x]) := by
  intro y hy
  rcases List.mem_append.1 hy with hy | hy
  · exact h y hy
  · rw [List.mem_singleton.1 hy]; exact ⟨h0, h1⟩
theorem addF_snoc (size : Nat) (xs : List Int) (x : Int) (h1 : x < size) (j : Nat) : addF (hasL xs) size x j = hasL (xs ++ [x]) j := by
  unfold addF hasL
  simp only [List.mem_append, List.mem_singleton, Bool.decide_or]
  congr 1
  rw [decide_eq_decide]
  constructor
  · exact fun h => h.1
  · exact fun h => ⟨h, by omega⟩
theorem getD_mem (xs : List Int) (k : Nat) (h : k < xs.length) : xs.getD k 0 ∈ xs := by
  rw [List.getD_eq_getElem?_getD, List.getElem?_eq_getElem h]; exact List.getElem_mem h

set_option maxHeartbeats 400000 in
theorem of_set {w : World} (size : Nat) {v : Value} {xs : List Int} (hs : size ≤ 4096) (hv : Reads w v xs) (hx : xs.length ≤ 9223372036854775807) :
    Calls Tryd.prog 10 #[.int .i64 (size : Int), v] w (OfF size xs w) := by
  obtain ⟨ad, cap, rfl, hv⟩ := hv
  have HV := Lib.hid hv
  clear hv
  go_enter Tryd.func10, Tryd.ntmps10
  go_wp2_with fail
  refine (new_yes size _ hs).mono ?_
  rintro e w1 ⟨rfl, hw1⟩
  have HS := Lib.hid (new_set w size hs)
  have HB := Lib.hid (newW_below w size)
  rw [← hw1] at HS HB
  clear hw1
  go_wp2
  go_loopw [20] (fun i wr => OfRel size xs w i wr) (fun i _ => xs.length - (intOf i).toNat)
  case atStart => exact ⟨0, Nat.zero_le _, rfl, HB.out, fun y hy => by simp at hy, HS.out.congr (fun j => by simp [hasL])⟩
  case round =>
    obtain ⟨k, hk, rfl, hbel, hwi, hset⟩ := hrel
    have HBB := Lib.hid hbel
    have HW := Lib.hid hwi
    have HSS := Lib.hid hset
    have hbs := hbel.size
    clear hbel hwi hset
    by_cases hlt : k < xs.length
    · obtain ⟨⟨pb, po, ps⟩, hp, hps, hc⟩ := HV.out k hlt
      simp only at hps hc
      subst hps
      have hpb := World.block_lt_of_cell? w _ hc
      have hc' := (HBB.out.cell (p := ⟨pb, po + k, none⟩) hpb).trans hc
      clear hc
      have HSN := Lib.hid (take_snocI xs k hlt)
      have HMM := Lib.hid (getD_mem xs k hlt)
      generalize hxk : xs.getD k 0 = x at *
      have HXK := Lib.hid hxk
      have HHV := Lib.hid HV
      clear hxk HV
      subst hp
      have k0 : (0 : Int) ≤ (k : Int) := by omega
      have k1 : (k : Int) < (xs.length : Int) := by omega
      by_cases hin : 0 ≤ x ∧ x < (size : Int)
      · obtain ⟨x0, x1⟩ := hin
        go_wp2_with fail
        refine (fits_yes _ size _ _ HSS.out.csize x0 x1).mono ?_
        rintro e w2 ⟨rfl, hw2⟩
        rw [hw2]
        clear hw2 w2
        go_wp2_with fail
        refine (add_set HSS.out _).mono ?_
        rintro e w2 ⟨rfl, ho, hset2⟩
        have HO := Lib.hid ho
        have HS2 := Lib.hid hset2
        clear ho hset2
        go_wp2
        go_roundw
        case rel =>
          refine ⟨k + 1, by omega, by go_num, below_only HBB.out HO.out hbs (Nat.le_refl _), ?_, ?_⟩
          · rw [HSN.out]; exact within_snoc HW.out x0 x1
          · rw [HSN.out]; exact HS2.out.congr (addF_snoc size _ x x1)
        case measure => simp [intOf]; omega
      · go_wp2_with fail
        refine (fits_no _ size _ _ HSS.out.csize (by omega)).mono ?_
        rintro e w2 ⟨rfl, hw2⟩
        rw [hw2]
        clear hw2 w2
        go_wp2_with fail
        go_ret2
        exact ⟨HBB.out, .inr ⟨fun h => hin (h x HMM.out), rfl⟩⟩
    · have hd : decide (k < xs.length) = false := by simp; omega
      go_wp2
      go_ret2
      have e : xs.take k = xs := List.take_of_length_le (by omega)
      have hwi := HW.out
      have hse := HSS.out
      rw [e] at hwi hse
      exact ⟨HBB.out, .inl ⟨hwi, rfl, hse⟩⟩
end Go.Proofs.YtmdmanhjgbpgoaaDoor
