/-
  Num of an error of the kind Errno, Ints of two slices of ints, and Of: what each answers and what it leaves in memory.
-/
import Derived.Test.YtmdmanhjgbpgoaaDoorA1
namespace Go.Proofs.YtmdmanhjgbpgoaaDoor
open Go.RowKit

/-- The two package variables as the program's text lays them. -/
structure Glob (w : World) : Prop where
  tab : Tab w
  err : w.cell? ⟨0, 0, none⟩ = some (.iface 84 (.agg #[.pointer (some ⟨2, 28, none⟩)]))
theorem Glob.below {w w' : World} (h : Glob w) (hb : Below w.heap.size w w') : Glob w' :=
  ⟨tab_below h.tab hb, (hb.cell (p := ⟨0, 0, none⟩) (World.block_lt_of_cell? w _ h.err)).trans h.err⟩

theorem num_nil (w : World) : Calls Tryd.prog 12 #[.nilIface] w fun e w' => e = .returned (.int .i64 0) ∧ w' = w := by
  go_enter Tryd.func12, Tryd.ntmps12
  go_wp2
  go_ret
  exact ⟨rfl, rfl⟩

set_option maxHeartbeats 1000000 in
theorem num_errno (n : Int) (w : World) (hG : Glob w) : Calls Tryd.prog 12 #[.iface 56 (.int .i64 n)] w fun e w' => e = .returned (.int .i64 n) ∧ Below w.heap.size w w' := by
  have hg := hG.err
  clear hG
  have hlt : 0 < w.heap.size := World.block_lt_of_cell? w _ hg
  have hgA : (w.alloc (.cells #[.int .i64 0] 56)).cell? ⟨0, 0, none⟩ = some (.iface 84 (.agg #[.pointer (some ⟨2, 28, none⟩)])) := by
    rw [World.cell?_alloc_lt _ _ ⟨0, 0, none⟩ hlt]; exact hg
  have htA : (w.alloc (.cells #[.int .i64 0] 56)).cell? ⟨w.heap.size, 0, none⟩ = some (.int .i64 0) := by simp
  have hfA : (w.alloc (.cells #[.int .i64 0] 56)).frozen? ⟨w.heap.size, 0, none⟩ = false := by simp
  have HG := Lib.hid hgA
  have HT := Lib.hid htA
  have HF := Lib.hid hfA
  clear hg hgA htA hfA
  go_enter Tryd.func12, Tryd.ntmps12
  go_wp2_with fail
  refine (as_hit n _ (.int .i64 0) _ HG.out HT.out HF.out).mono ?_
  rintro e w' ⟨rfl, rfl⟩
  go_wp2
  go_ret
  refine ⟨rfl, ?_⟩
  exact (((((Below.refl _ _).alloc (Nat.le_refl _) _).alloc (by simp) _).alloc (by simp; omega) _).alloc (by simp; omega) _).alloc (by simp; omega) _

/-- A slice of ints reads as this list. -/
def Reads (w : World) (v : Value) (xs : List Int) : Prop :=
  ∃ ad cap, v = .slice ad xs.length cap ∧ ∀ k, k < xs.length → ∃ p, ad = some p ∧ p.spot = none ∧ w.cell? ⟨p.block, p.off + k, none⟩ = some (.int .i64 (xs.getD k 0))

theorem Reads.of_owns {w : World} {base : Nat} {v : Value} {xs : List Nat} (h : w.ownsRow base 3 1 v xs.length (xs.map I64)) : Reads w v (xs.map (fun x : Nat => (x : Int))) := by
  obtain ⟨h1, h2⟩ := h
  rcases h2 with ⟨rfl, hn⟩ | ⟨g, cap, cur, rfl, hg, hh, hc, hm, hs, ht⟩
  · refine ⟨none, 0, by simp [hn], ?_⟩
    intro k hk
    simp at hk; omega
  · refine ⟨some ⟨g, 0, none⟩, cap, by simp, ?_⟩
    intro k hk
    refine ⟨_, rfl, rfl, ?_⟩
    simp only [List.length_map] at hk
    have hk' : (cur.toList.take (xs.length * 1))[k]? = (xs.map I64)[k]? := by rw [ht]
    rw [List.getElem?_take, if_pos (by omega)] at hk'
    simp only [World.cell?, hh, Nat.zero_add]
    simp only [Option.isSome_none]
    have : cur[k]? = (xs.map I64)[k]? := by simpa using hk'
    rw [if_neg (by simp), this]
    simp [I64, List.getElem?_eq_getElem hk]

theorem Reads.block {w : World} {v : Value} {xs : List Int} (h : Reads w v xs) {w' : World} (hb : ∀ ad n c, v = .slice (some ad) n c → 0 < n → w'.heap[ad.block]? = w.heap[ad.block]?) : Reads w' v xs := by
  obtain ⟨ad, cap, rfl, h2⟩ := h
  refine ⟨ad, cap, rfl, fun k hk => ?_⟩
  obtain ⟨p, rfl, hp, hc⟩ := h2 k hk
  exact ⟨p, rfl, hp, (World.cell?_of_block (w := w) (a := ⟨p.block, p.off + k, none⟩) (hb p _ _ rfl (by omega))).trans hc⟩
theorem Reads.below {w w' : World} {v : Value} {xs : List Int} (h : Reads w v xs) (hb : Below w.heap.size w w') : Reads w' v xs := by
  obtain ⟨ad, cap, rfl, h2⟩ := h
  refine ⟨ad, cap, rfl, fun k hk => ?_⟩
  obtain ⟨p, rfl, hp, hc⟩ := h2 k hk
  exact ⟨p, rfl, hp, (hb.cell (p := ⟨p.block, p.off + k, none⟩) (World.block_lt_of_cell? w _ hc)).trans hc⟩

def IntsF (xs ys : List Int) (w : World) (e : Ending) (w' : World) : Prop := e = .returned (.bool (decide (xs = ys))) ∧ ∃ n, w' = w.drewN n
def IntsRel (xs ys : List Int) (w : World) (i : Value) (wr : World) : Prop := ∃ k : Nat, k ≤ xs.length ∧ i = .int .i64 (k : Int) ∧ (∃ n, wr = w.drewN n) ∧ ∀ j, j < k → xs.getD j 0 = ys.getD j 0
set_option maxHeartbeats 400000 in
theorem ints_set {w : World} {v u : Value} {xs ys : List Int} (hv : Reads w v xs) (hu : Reads w u ys) (hx : xs.length ≤ 9223372036854775807) (hy : ys.length ≤ 9223372036854775807) :
    Calls Tryd.prog 26 #[v, u] w (IntsF xs ys w) := by
  obtain ⟨ad, cap, rfl, hv⟩ := hv
  obtain ⟨bd, cbp, rfl, hu⟩ := hu
  by_cases hl : xs.length = ys.length
  · have HL := Lib.hid hl
    have hb : ((xs.length : Int) != (ys.length : Int)) = false := by simp [hl]
    have HV := Lib.hid hv
    have HU := Lib.hid hu
    clear hl hv hu
    go_enter Tryd.func26, Tryd.ntmps26
    go_wp2
    clear hb
    go_loopw [5] (fun i wr => IntsRel xs ys w i wr) (fun i _ => xs.length - (intOf i).toNat)
    case atStart => exact ⟨0, Nat.zero_le _, rfl, ⟨0, rfl⟩, fun j hj => by omega⟩
    case round =>
      obtain ⟨k, hk, rfl, ⟨n, rfl⟩, hz⟩ := hrel
      have HZ := Lib.hid hz
      clear hz
      by_cases hlt : k < xs.length
      · have hlt2 : k < ys.length := by have := HL.out; omega
        obtain ⟨⟨pb, po, ps⟩, hp, hps, hc⟩ := HV.out k hlt
        obtain ⟨⟨qb, qo, qs⟩, hq, hqs, hd⟩ := HU.out k hlt2
        simp only at hps hqs hc hd
        subst hps hqs
        generalize hxk : xs.getD k 0 = x at hc
        generalize hyk : ys.getD k 0 = y at hd
        have HXK := Lib.hid hxk
        have HYK := Lib.hid hyk
        have HHV := Lib.hid HV
        have HHU := Lib.hid HU
        clear hxk hyk HV HU
        subst hp hq
        have k0 : (0 : Int) ≤ (k : Int) := by omega
        have k1 : (k : Int) < (xs.length : Int) := by omega
        have k2 : (k : Int) < (ys.length : Int) := by omega
        by_cases he : x = y
        · have hne : (x != y) = false := by simp [he]
          have HE := Lib.hid he
          clear he
          go_wp2
          go_quiet (fail)
          go_wp2
          go_roundw
          case rel =>
            refine ⟨k + 1, by omega, by go_num, ⟨_, rfl⟩, fun j hj => ?_⟩
            rcases Nat.lt_or_ge j k with h | h
            · exact HZ.out j h
            · rw [show j = k by omega, HXK.out, HYK.out]; exact HE.out
          case measure => simp [intOf]; omega
        · have hne : (x != y) = true := by simp [he]
          have HE := Lib.hid he
          clear he
          go_wp2
          go_quiet (fail)
          go_wp2
          go_ret
          refine ⟨?_, n + nq, World.drewN_drewN _ _ _⟩
          have : decide (xs = ys) = false := by
            rw [decide_eq_false_iff_not]
            intro h
            subst h
            exact HE.out (HXK.out.symm.trans HYK.out)
          rw [this]; rfl
      · have hd : decide (k < xs.length) = false := by simp; omega
        go_wp2
        go_ret
        refine ⟨?_, n, rfl⟩
        have : decide (xs = ys) = true := by
          rw [decide_eq_true_iff]
          apply List.ext_getElem HL.out
          intro j h1 h2
          have := HZ.out j (by omega)
          simpa [List.getD_eq_getElem?_getD, List.getElem?_eq_getElem h1, List.getElem?_eq_getElem h2] using this
        rw [this]; rfl
  · have hb : ((xs.length : Int) != (ys.length : Int)) = true := by simp; omega
    have HL := Lib.hid hl
    clear hv hu hl
    go_enter Tryd.func26, Tryd.ntmps26
    go_wp2
    go_ret
    refine ⟨?_, 0, rfl⟩
    have : decide (xs = ys) = false := by
      rw [decide_eq_false_iff_not]
      intro h
      exact HL.out (by rw [h])
    rw [this]; rfl
end Go.Proofs.YtmdmanhjgbpgoaaDoor
