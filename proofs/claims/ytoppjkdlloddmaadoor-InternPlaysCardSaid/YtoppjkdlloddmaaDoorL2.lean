/-
  slices.Equal, the reference's Same and slices.Clone of slices of 32-bit numbers, nil too.
-/
import Derived.Test.YtoppjkdlloddmaaDoorL1
namespace Go.Proofs.YtoppjkdlloddmaaDoor
open Go.RowKit

def SameF (xs ys : List Int) (w : World) (e : Ending) (w' : World) : Prop := e = .returned (.bool (decide (xs = ys))) ∧ ∃ n, w' = w.drewN n
def SameRel (xs ys : List Int) (w : World) (i : Value) (wr : World) : Prop := ∃ k : Nat, k ≤ xs.length ∧ i = .int .i64 (k : Int) ∧ (∃ n, wr = w.drewN n) ∧ ∀ j, j < k → xs.getD j 0 = ys.getD j 0

set_option maxHeartbeats 400000 in
theorem same_any {w : World} {v u : Value} {xs ys : List Int} (hv : R32 w v xs) (hu : R32 w u ys) (hx : xs.length ≤ 9223372036854775807) (hy : ys.length ≤ 9223372036854775807) :
    Calls Tryd.prog 12 #[v, u] w (SameF xs ys w) := by
  obtain ⟨ad, cap, rfl, hv⟩ := hv
  obtain ⟨bd, cbp, rfl, hu⟩ := hu
  by_cases hl : xs.length = ys.length
  · have HL := Lib.hid hl
    have hb : ((xs.length : Int) != (ys.length : Int)) = false := by simp [hl]
    have HV := Lib.hid hv
    have HU := Lib.hid hu
    clear hl hv hu
    go_enter Tryd.func12, Tryd.ntmps12
    go_wp2
    clear hb
    go_loopw [5] (fun i wr => SameRel xs ys w i wr) (fun i _ => xs.length - (intOf i).toNat)
    case atStart => exact ⟨0, Nat.zero_le _, rfl, ⟨0, rfl⟩, fun j hj => by omega⟩
    case round =>
      obtain ⟨k, hk, rfl, ⟨n, rfl⟩, hz⟩ := hrel
      have HZ := Lib.hid hz
      clear hz
      by_cases hlt : k < xs.length
      · have hlt2 : k < ys.length := by have := HL.out; omega
        obtain ⟨⟨pb, po, ps⟩, hp, hps, hc⟩ := HV.out k hlt
        obtain ⟨⟨qb, qo, qs⟩, hq, hqs, hd⟩ := HU.out k hlt2
        simp only at hps hqs hc hd
        subst hps hqs
        generalize hxk : xs.getD k 0 = x at hc
        generalize hyk : ys.getD k 0 = y at hd
        have HXK := Lib.hid hxk
        have HYK := Lib.hid hyk
        have HHV := Lib.hid HV
        have HHU := Lib.hid HU
        clear hxk hyk HV HU
        subst hp hq
        have k0 : (0 : Int) ≤ (k : Int) := by omega
        have k1 : (k : Int) < (xs.length : Int) := by omega
        have k2 : (k : Int) < (ys.length : Int) := by omega
        by_cases he : x = y
        · have hne : (x != y) = false := by simp [he]
          have HE := Lib.hid he
          clear he
          go_wp2
          go_quiet (fail)
          go_wp2
          go_roundw
          case rel =>
            refine ⟨k + 1, by omega, by go_num, ⟨_, rfl⟩, fun j hj => ?_⟩
            rcases Nat.lt_or_ge j k with h | h
            · exact HZ.out j h
            · rw [show j = k by omega, HXK.out, HYK.out]; exact HE.out
          case measure => simp [intOf]; omega
        · have hne : (x != y) = true := by simp [he]
          have HE := Lib.hid he
          clear he
          go_wp2
          go_quiet (fail)
          go_wp2
          go_ret
          refine ⟨?_, n + nq, World.drewN_drewN _ _ _⟩
          have : decide (xs = ys) = false := by
            rw [decide_eq_false_iff_not]
            intro h
            subst h
            exact HE.out (HXK.out.symm.trans HYK.out)
          rw [this]; rfl
      · have hd : decide (k < xs.length) = false := by simp; omega
        go_wp2
        go_ret
        refine ⟨?_, n, rfl⟩
        have : decide (xs = ys) = true := by
          rw [decide_eq_true_iff]
          apply List.ext_getElem HL.out
          intro j h1 h2
          have := HZ.out j (by omega)
          simpa [List.getD_eq_getElem?_getD, List.getElem?_eq_getElem h1, List.getElem?_eq_getElem h2] using this
        rw [this]; rfl
  · have hb : ((xs.length : Int) != (ys.length : Int)) = true := by simp; omega
    have HL := Lib.hid hl
    clear hv hu hl
    go_enter Tryd.func12, Tryd.ntmps12
    go_wp2
    go_ret
    refine ⟨?_, 0, rfl⟩
    have : decide (xs = ys) = false := by
      rw [decide_eq_false_iff_not]
      intro h
      exact HL.out (by rw [h])
    rw [this]; rfl


set_option maxHeartbeats 400000 in
theorem equal_any {w : World} {v u : Value} {xs ys : List Int} (hv : R32 w v xs) (hu : R32 w u ys) (hx : xs.length ≤ 9223372036854775807) (hy : ys.length ≤ 9223372036854775807) :
    Calls Tryd.prog 14 #[v, u] w (SameF xs ys w) := by
  obtain ⟨ad, cap, rfl, hv⟩ := hv
  obtain ⟨bd, cbp, rfl, hu⟩ := hu
  by_cases hl : xs.length = ys.length
  · have HL := Lib.hid hl
    have hb : ((xs.length : Int) != (ys.length : Int)) = false := by simp [hl]
    have HV := Lib.hid hv
    have HU := Lib.hid hu
    clear hl hv hu
    go_enter Tryd.func14, Tryd.ntmps14
    go_wp2
    clear hb
    go_loopw [13] (fun i wr => SameRel xs ys w i wr) (fun i _ => xs.length - (intOf i).toNat)
    case atStart => exact ⟨0, Nat.zero_le _, rfl, ⟨0, rfl⟩, fun j hj => by omega⟩
    case round =>
      obtain ⟨k, hk, rfl, ⟨n, rfl⟩, hz⟩ := hrel
      have HZ := Lib.hid hz
      clear hz
      by_cases hlt : k < xs.length
      · have hlt2 : k < ys.length := by have := HL.out; omega
        obtain ⟨⟨pb, po, ps⟩, hp, hps, hc⟩ := HV.out k hlt
        obtain ⟨⟨qb, qo, qs⟩, hq, hqs, hd⟩ := HU.out k hlt2
        simp only at hps hqs hc hd
        subst hps hqs
        generalize hxk : xs.getD k 0 = x at hc
        generalize hyk : ys.getD k 0 = y at hd
        have HXK := Lib.hid hxk
        have HYK := Lib.hid hyk
        have HHV := Lib.hid HV
        have HHU := Lib.hid HU
        clear hxk hyk HV HU
        subst hp hq
        have k0 : (0 : Int) ≤ (k : Int) := by omega
        have k1 : (k : Int) < (xs.length : Int) := by omega
        have k2 : (k : Int) < (ys.length : Int) := by omega
        by_cases he : x = y
        · have hne : (x != y) = false := by simp [he]
          have HE := Lib.hid he
          clear he
          go_wp2
          go_quiet (fail)
          go_wp2
          go_roundw
          case rel =>
            refine ⟨k + 1, by omega, by go_num, ⟨_, rfl⟩, fun j hj => ?_⟩
            rcases Nat.lt_or_ge j k with h | h
            · exact HZ.out j h
            · rw [show j = k by omega, HXK.out, HYK.out]; exact HE.out
          case measure => simp [intOf]; omega
        · have hne : (x != y) = true := by simp [he]
          have HE := Lib.hid he
          clear he
          go_wp2
          go_quiet (fail)
          go_wp2
          go_ret
          refine ⟨?_, n + nq, World.drewN_drewN _ _ _⟩
          have : decide (xs = ys) = false := by
            rw [decide_eq_false_iff_not]
            intro h
            subst h
            exact HE.out (HXK.out.symm.trans HYK.out)
          rw [this]; rfl
      · have hd : decide (k < xs.length) = false := by simp; omega
        go_wp2
        go_ret
        refine ⟨?_, n, rfl⟩
        have : decide (xs = ys) = true := by
          rw [decide_eq_true_iff]
          apply List.ext_getElem HL.out
          intro j h1 h2
          have := HZ.out j (by omega)
          simpa [List.getD_eq_getElem?_getD, List.getElem?_eq_getElem h1, List.getElem?_eq_getElem h2] using this
        rw [this]; rfl
  · have hb : ((xs.length : Int) != (ys.length : Int)) = true := by simp; omega
    have HL := Lib.hid hl
    clear hv hu hl
    go_enter Tryd.func14, Tryd.ntmps14
    go_wp2
    go_ret
    refine ⟨?_, 0, rfl⟩
    have : decide (xs = ys) = false := by
      rw [decide_eq_false_iff_not]
      intro h
      exact HL.out (by rw [h])
    rw [this]; rfl


theorem infoI : (Tryd.prog.info? 21).map (fun i => (i.zero, i.size, i.bytes)) = some (some (.int .i32 0), 1, 4) := by kernel_rfl
/-- What Clone hands back. -/
def CloneF (xs : List Int) (w : World) (e : Ending) (w' : World) : Prop :=
  ∃ v, e = .returned v ∧ w'.ownsRow w.heap.size 21 1 v xs.length (xs.map V32) ∧ Below w.heap.size w w'

set_option maxHeartbeats 400000 in
set_option maxRecDepth 100000 in
theorem clone_some {w : World} {a : Addr} {cap : Nat} {xs : List Int} (hl : xs.length ≤ 1000) (hv : ∀ k, k < xs.length → a.spot = none ∧ w.cell? ⟨a.block, a.off + k, none⟩ = some (.int .i32 (xs.getD k 0))) :
    Calls Tryd.prog 16 #[.slice (some a) xs.length cap] w (CloneF xs w) := by
  obtain ⟨i0, hi0, hz⟩ := Option.map_eq_some_iff.1 infoI
  simp only [Prod.mk.injEq] at hz
  obtain ⟨hz0, hz1, hz2⟩ := hz
  have HZ0 := Lib.hid hz0
  have HZ1 := Lib.hid hz1
  have HZ2 := Lib.hid hz2
  have HI := Lib.hid hi0
  have HV := Lib.hid hv
  clear hz0 hz1 hz2 hi0 hv
  have hnn := fun W : World => Go.Lib.run_eql_slice_nil (P := Tryd.prog) W 26 21 (some a) xs.length cap 0 0 Tryd.underlying26
  simp only [Option.isNone_some] at hnn
  go_enter Tryd.func16, Tryd.ntmps16
  go_wp2_with (at_builtin; refine wpList_append_own _ rfl _ _ 26 rfl w.heap.size 21 i0 (.int .i32 0) 1 4 Tryd.underlying26 HI.out HZ0.out HZ1.out HZ2.out rfl (by decide) _ _ _ rfl (World.ownsRow_made w #[] 0 (Nat.le_refl _) (by unfold maxLen; omega) (by simp)) a xs.length cap (xs.map V32) rfl (by simp) ?c1 ?c2 ?c3 ?c4 ?c5 ?_)
  case c1 =>
    intro j u hj
    have hjl : j < xs.length := by
      rcases Nat.lt_or_ge j xs.length with h | h
      · exact h
      · rw [List.getElem?_eq_none (by simpa using h)] at hj; cases hj
    have hs := (HV.out j hjl).1
    have := (HV.out j hjl).2
    rw [List.getElem?_map, List.getElem?_eq_getElem hjl] at hj
    simp only [Option.map_some, Option.some.injEq] at hj
    subst hj
    obtain ⟨ab, ao, sp⟩ := a
    simp only at hs this
    subst hs
    have hadd : (⟨ab, ao, none⟩ : Addr).add j = ⟨ab, ao + j, none⟩ := by
      by_cases hj0 : j = 0 <;> simp [Addr.add, hj0]
    rw [hadd, Below.cell (B := w.heap.size) (w := w) ((Below.refl _ _).alloc (Nat.le_refl _) _) (World.block_lt_of_cell? w _ this)]
    simpa [V32, List.getD_eq_getElem?_getD, List.getElem?_eq_getElem hjl] using this
  case c2 =>
    intro u hu
    obtain ⟨x, _, rfl⟩ := List.mem_map.1 hu
    rfl
  case c3 => unfold maxLen; omega
  case c4 => omega
  case c5 => simp
  intro v' w1 hown hgrow hnil
  have HB := Lib.hid (((Below.refl w.heap.size w).alloc (Nat.le_refl _) (.cells #[] 21)).grown hgrow (by simp) (fun k hk => by simp [Value.ownBlock] at hk; omega))
  have HO := Lib.hid hown
  clear hown hgrow hnil
  go_wp2
  go_ret
  exact ⟨_, rfl, by simpa using HO.out, HB.out⟩

set_option maxHeartbeats 400000 in
theorem clone_none (w : World) (n c : Nat) : Calls Tryd.prog 16 #[.slice none n c] w fun e w' => e = .returned (.slice none 0 0) ∧ w' = w := by
  have hnn := fun W : World => Go.Lib.run_eql_slice_nil (P := Tryd.prog) W 26 21 none n c 0 0 Tryd.underlying26
  simp only [Option.isNone_none] at hnn
  go_enter Tryd.func16, Tryd.ntmps16
  go_wp2
  go_ret
  exact ⟨rfl, rfl⟩

theorem clone_any {w : World} {v : Value} {xs : List Int} (hv : R32 w v xs) (hl : xs.length ≤ 1000) : Calls Tryd.prog 16 #[v] w (CloneF xs w) := by
  obtain ⟨ad, cap, rfl, hv⟩ := hv
  cases ad with
  | none =>
    refine (clone_none w _ _).mono ?_
    rintro e w' ⟨rfl, rfl⟩
    have h0 : xs = [] := by
      rcases Nat.eq_zero_or_pos xs.length with h | h
      · exact List.eq_nil_of_length_eq_zero h
      · obtain ⟨p, hp, _⟩ := hv 0 h; cases hp
    subst h0
    exact ⟨_, rfl, World.ownsRow_nil _ _ _ _, Below.refl _ _⟩
  | some a =>
    refine clone_some hl fun k hk => ?_
    obtain ⟨p, hp, hs, hc⟩ := hv k hk
    injection hp with hp
    subst hp
    exact ⟨hs, hc⟩
end Go.Proofs.YtoppjkdlloddmaaDoor
