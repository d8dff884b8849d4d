/-
  The calls that BitsPlays takes: a slice of acts as it lies in memory, and far.
-/
import Derived.Test.YtmdmanhjgbpgoaaDoorR3
namespace Go.Proofs.YtmdmanhjgbpgoaaDoor
open Go.RowKit

/-- An act, as a walk takes it. -/
structure ActV where
  kind : Int
  num : Int
  size : Int
  val : Value
  nums : List Int
instance : Inhabited ActV := ⟨⟨0, 0, 0, .slice none 0 0, []⟩⟩
/-- One act lies at an address. -/
structure ActAt (w : World) (b o : Nat) (a : ActV) : Prop where
  c0 : w.cell? ⟨b, o, none⟩ = some (.int .i64 a.kind)
  c1 : w.cell? ⟨b, o + 1, none⟩ = some (.int .i64 a.num)
  c2 : w.cell? ⟨b, o + 2, none⟩ = some (.int .i64 a.size)
  c3 : w.cell? ⟨b, o + 3, none⟩ = some a.val
  rd : Reads w a.val a.nums
  le : a.nums.length ≤ maxLen
def ReadsActs (w : World) (v : Value) (l : List ActV) : Prop :=
  ∃ ad cap, v = .slice ad l.length cap ∧ ∀ k, k < l.length → ∃ p, ad = some p ∧ p.spot = none ∧ ActAt w p.block (p.off + 4 * k) (l.getD k default)
theorem ActAt.below {w w' : World} {b o : Nat} {a : ActV} (h : ActAt w b o a) (hb : Below w.heap.size w w') : ActAt w' b o a := by
  have hl := World.block_lt_of_cell? w _ h.c0
  exact ⟨(hb.cell (p := ⟨b, o, none⟩) hl).trans h.c0, (hb.cell (p := ⟨b, o + 1, none⟩) hl).trans h.c1, (hb.cell (p := ⟨b, o + 2, none⟩) hl).trans h.c2, (hb.cell (p := ⟨b, o + 3, none⟩) hl).trans h.c3, h.rd.below hb, h.le⟩
def farB (l : List ActV) : Bool := decide (60 < l.length) || l.any (fun a => decide (200 < a.nums.length))
def FarRel (l : List ActV) (i : Value) : Prop := ∃ k : Nat, k ≤ l.length ∧ i = .int .i64 (k : Int) ∧ ∀ j, j < k → (l.getD j default).nums.length ≤ 200

set_option maxHeartbeats 400000 in
theorem far_any {w : World} {v : Value} {l : List ActV} (hv : ReadsActs w v l) (hx : l.length ≤ 9223372036854775807) :
    Calls Tryd.prog 9 #[v] w fun e w' => e = .returned (.bool (farB l)) ∧ w' = w := by
  obtain ⟨ad, cap, rfl, hv⟩ := hv
  have HV := Lib.hid hv
  clear hv
  by_cases hbig : 60 < l.length
  · have e : farB l = true := by simp [farB, hbig]
    rw [e]
    clear e
    go_enter Tryd.func9, Tryd.ntmps9
    go_wp2
    go_ret
    exact ⟨rfl, rfl⟩
  · have hd : decide ((60 : Int) < (l.length : Int)) = false := by simp; omega
    have hl : l.length ≤ 60 := by omega
    have HD := Lib.hid hbig
    clear hbig
    go_enter Tryd.func9, Tryd.ntmps9
    go_wp2
    clear hd
    go_loop [3] (fun i => FarRel l i) (fun i => l.length - (intOf i).toNat)
    case atStart => exact ⟨0, Nat.zero_le _, rfl, fun j hj => by omega⟩
    case round =>
      obtain ⟨k, hk, rfl, hz⟩ := hrel
      have HZ := Lib.hid hz
      clear hz
      by_cases hlt : k < l.length
      · obtain ⟨⟨pb, po, ps⟩, hp, hps, hact⟩ := HV.out k hlt
        simp only at hps hact
        subst hps
        have hc3 := hact.c3
        obtain ⟨lad, lcap, hlv, _⟩ := hact.rd
        rw [hlv] at hc3
        have hle := hact.le
        unfold maxLen at hle
        generalize hnl : (l.getD k default).nums.length = nl at *
        have HNL := Lib.hid hnl
        have HHV := Lib.hid HV
        clear hnl HV hact hlv
        subst hp
        have k0 : (0 : Int) ≤ (k : Int) := by omega
        have k1 : (k : Int) < (l.length : Int) := by omega
        have ea : po + 4 * k + 3 = po + k * 4 + 3 := by omega
        rw [ea] at hc3
        clear ea
        by_cases hbg : 200 < nl
        · have hd : decide ((200 : Int) < (nl : Int)) = true := by simp; omega
          go_wp2
          go_ret
          refine ⟨?_, rfl⟩
          have : farB l = true := by
            unfold farB
            rw [Bool.or_eq_true]
            right
            rw [List.any_eq_true]
            refine ⟨l.getD k default, ?_, ?_⟩
            · rw [List.getD_eq_getElem?_getD, List.getElem?_eq_getElem hlt]; exact List.getElem_mem hlt
            · rw [decide_eq_true_iff, HNL.out]; exact hbg
          rw [this]; rfl
        · have hd : decide ((200 : Int) < (nl : Int)) = false := by simp; omega
          go_wp2
          go_round
          case rel =>
            refine ⟨k + 1, by omega, by go_num, fun j hj => ?_⟩
            rcases Nat.lt_or_ge j k with h | h
            · exact HZ.out j h
            · rw [show j = k by omega, HNL.out]; omega
          case measure => simp [intOf]; omega
      · have hd : decide (k < l.length) = false := by simp; omega
        go_wp2
        go_ret
        refine ⟨?_, rfl⟩
        have : farB l = false := by
          unfold farB
          rw [decide_eq_false HD.out, Bool.false_or, List.any_eq_false]
          intro a ha
          obtain ⟨j, hj, he⟩ := List.getElem_of_mem ha
          have := HZ.out j (by omega)
          rw [List.getD_eq_getElem?_getD, List.getElem?_eq_getElem hj, Option.getD_some, he] at this
          simp; omega
        rw [this]; rfl
end Go.Proofs.YtmdmanhjgbpgoaaDoor
