/-
  The reference's Find; a list of vectors that the law makes for itself, beside a table.
-/
import Derived.Test.YtoppjkdlloddmaaDoorN0
namespace Go.Proofs.YtoppjkdlloddmaaDoor
open Go.RowKit

/-- What the reference's Find answers. -/
def RefF (ms : List (List Int)) (xs : List Int) (w : World) (e : Ending) (w' : World) : Prop :=
  ((∃ i, i < ms.length ∧ ms.getD i [] = xs ∧ e = .returned (.int .i64 (i : Int))) ∨ ((∀ j, j < ms.length → ms.getD j [] ≠ xs) ∧ e = .returned (.int .i64 (-1)))) ∧ ∃ n, w' = w.drewN n
def RefRel (ms : List (List Int)) (xs : List Int) (w : World) (i : Value) (wr : World) : Prop :=
  ∃ k : Nat, k ≤ ms.length ∧ i = .int .i64 (k : Int) ∧ (∀ j, j < k → ms.getD j [] ≠ xs) ∧ ∃ d, wr = w.drewN d

set_option maxHeartbeats 400000 in
theorem reffind_any {w : World} {mv v : Value} {ms : List (List Int)} {xs : List Int} (hm : RL w mv ms) (hv : R32 w v xs) (hx : xs.length ≤ 9223372036854775807) (hl : ms.length ≤ 1000) :
    Calls Tryd.prog 6 #[mv, v] w (RefF ms xs w) := by
  obtain ⟨ad, cap, rfl, hm⟩ := hm
  have HM := Lib.hid hm
  have HV := Lib.hid hv
  clear hm hv
  go_enter Tryd.func6, Tryd.ntmps6
  go_wp2_with fail
  go_loopw [5] (fun i wr => RefRel ms xs w i wr) (fun i _ => ms.length - (intOf i).toNat)
  case atStart => exact ⟨0, Nat.zero_le _, rfl, fun j hj => by omega, 0, rfl⟩
  case round =>
    obtain ⟨k, hk, rfl, hno, d, rfl⟩ := hrel
    have HNO := Lib.hid hno
    clear hno
    by_cases hlt : k < ms.length
    · have hd : decide (k < ms.length) = true := by simp; omega
      obtain ⟨⟨pb, po, ps⟩, u, hp, hps, hc, hr, hyl⟩ := HM.out k hlt
      simp only at hps hc
      subst hps
      have HHM := Lib.hid HM
      clear HM
      subst hp
      have HR := Lib.hid hr
      clear hr
      generalize hys : ms.getD k [] = ys at *
      have HYS := Lib.hid hys
      clear hys
      have k0 : (0 : Int) ≤ (k : Int) := by omega
      have k1 : (k : Int) < (ms.length : Int) := by omega
      by_cases he : ys = xs
      · go_wp2_with fail
        refine (same_any (HR.out.drewN d) (HV.out.drewN d) hyl hx).mono ?_
        rintro e w' ⟨rfl, d2, rfl⟩
        rw [decide_eq_true he]
        have HE := Lib.hid he
        clear he
        go_wp2_with fail
        go_ret
        exact ⟨.inl ⟨k, hlt, by rw [HYS.out, HE.out], rfl⟩, d + d2, rfl⟩
      · go_wp2_with fail
        refine (same_any (HR.out.drewN d) (HV.out.drewN d) hyl hx).mono ?_
        rintro e w' ⟨rfl, d2, rfl⟩
        rw [decide_eq_false he]
        have HE := Lib.hid he
        clear he
        go_wp2_with fail
        go_roundw
        case rel =>
          refine ⟨k + 1, by omega, by go_num, fun j hj => ?_, d + d2, rfl⟩
          rcases Nat.lt_or_ge j k with h | h
          · exact HNO.out j h
          · rw [show j = k by omega, HYS.out]; exact HE.out
        case measure => simp [intOf]; omega
    · have hd : decide (k < ms.length) = false := by simp; omega
      go_wp2_with fail
      go_ret
      exact ⟨.inr ⟨fun j hj => HNO.out j (by omega), rfl⟩, d, rfl⟩

/-- A list of the law's own: its slices are the arguments'. -/
def Mine (w wr : World) (b : Nat) (mv : Value) (vs : List (List Int)) : Prop :=
  ∃ ml, wr.ownsRow b 26 1 mv vs.length ml ∧ ∀ j, j < vs.length → ∃ u, ml[j]? = some u ∧ R32 w u (vs.getD j []) ∧ (vs.getD j []).length ≤ 9223372036854775807
theorem Mine.nil (w wr : World) (b : Nat) : Mine w wr b (.slice none 0 0) [] := ⟨[], World.ownsRow_nil _ _ _ _, fun j hj => absurd hj (Nat.not_lt_zero j)⟩
theorem Mine.rl {w wr : World} {b : Nat} {mv : Value} {vs : List (List Int)} (h : Mine w wr b mv vs) (hb : Below w.heap.size w wr) : RL wr mv vs := by
  obtain ⟨ml, h1, h2⟩ := h
  rcases Nat.eq_zero_or_pos vs.length with h0 | h0
  · obtain ⟨ad, c, rfl⟩ := owns_slice h1
    exact ⟨ad, c, rfl, fun k hk => by omega⟩
  · obtain ⟨g, cap, rfl, _, _⟩ := h1.form h0
    refine ⟨_, _, rfl, fun k hk => ?_⟩
    obtain ⟨u, h3, h4, h5⟩ := h2 k hk
    refine ⟨_, u, rfl, rfl, ?_, h4.below hb, h5⟩
    show wr.cell? ⟨g, 0 + k, none⟩ = some u
    rw [Nat.zero_add, h1.cellAt k (by omega)]; exact h3
theorem Mine.of {w wr w' : World} {b : Nat} {mv : Value} {vs : List (List Int)} (h : Mine w wr b mv vs) (hk : ∀ g cs, Blk wr g 26 cs → Blk w' g 26 cs) : Mine w w' b mv vs := by
  obtain ⟨ml, h1, h2⟩ := h
  refine ⟨ml, owns_of h1 fun g hg => ?_, h2⟩
  obtain ⟨_, cs, hb⟩ := owns_blk h1 hg
  exact (hk g cs hb).trans hb.symm
theorem Mine.keep {w wr w' : World} {b B : Nat} {mv : Value} {vs : List (List Int)} (h : Mine w wr b mv vs) (hk : Keep b B wr w') : Mine w w' b mv vs :=
  h.of fun g cs hb => hk.typ g cs 26 hb (by decide) (by decide) (by decide)
theorem Mine.below {w wr w' : World} {b : Nat} {mv : Value} {vs : List (List Int)} (h : Mine w wr b mv vs) (hb : Below wr.heap.size wr w') : Mine w w' b mv vs :=
  h.of fun g _ hg => (hb.block g hg.lt).trans hg
theorem Mine.drewN {w wr : World} {b : Nat} {mv : Value} {vs : List (List Int)} (h : Mine w wr b mv vs) (k : Nat) : Mine w (wr.drewN k) b mv vs := h
theorem Tb.ofTyp {w w' : World} {B b n m : Nat} {ev hv : Value} {vl : Nat → Value} {vs : List (List Int)} {nx hs : Nat → Int} (h : Tb w B b n m ev hv vl vs nx hs)
    (hk : ∀ g t cs, Blk w g t cs → t ≠ 26 → Blk w' g t cs) : Tb w' B b n m ev hv vl vs nx hs := by
  have hh : ∀ {e : TypeId} {size k : Nat} {v : Value} {xs : List Value}, w.ownsRow B e size v k xs → e ≠ 26 → w'.ownsRow B e size v k xs := fun ho hne =>
    owns_of ho fun g hg => by
      obtain ⟨_, cs, hb⟩ := owns_blk ho hg
      exact (hk g _ cs hb hne).trans hb.symm
  obtain ⟨cs, h1, h2⟩ := h.ent
  obtain ⟨ds, h3, h4⟩ := h.hea
  exact ⟨h.len, hk b _ _ h.blk (by decide), ⟨cs, hh h1 (by decide), h2⟩, ⟨ds, hh h3 (by decide), h4⟩, fun j hj => hh (h.vec j hj) (by decide)⟩
theorem Tab.ofTyp {w w' : World} {B b : Nat} {vs : List (List Int)} (h : Tab w B b vs) (hk : ∀ g t cs, Blk w g t cs → t ≠ 26 → Blk w' g t cs) : Tab w' B b vs := by
  obtain ⟨m, ev, hv, vl, nx, hs, h1, h2⟩ := h
  exact ⟨m, ev, hv, vl, nx, hs, h1.ofTyp hk, h2⟩
/-- One vector more behind the law's own list. -/
theorem mine_snoc {w wr w' : World} {b : Nat} {mv mv' u : Value} {vs : List (List Int)} {ys : List Int} {ml : List Value} (h2 : ∀ j, j < vs.length → ∃ u, ml[j]? = some u ∧ R32 w u (vs.getD j []) ∧ (vs.getD j []).length ≤ 9223372036854775807)
    (h1 : wr.ownsRow b 26 1 mv vs.length ml) (ho : w'.ownsRow b 26 1 mv' (vs.length + 1) (ml ++ [u])) (hu : R32 w u ys) (hy : ys.length ≤ 9223372036854775807) : Mine w w' b mv' (vs ++ [ys]) := by
  have hl := h1.1
  refine ⟨ml ++ [u], by rw [List.length_append]; exact ho, fun j hj => ?_⟩
  rw [List.length_append] at hj
  have hj' : j < vs.length + 1 := hj
  rcases Nat.lt_or_ge j vs.length with h | h
  · obtain ⟨x, h3, h4⟩ := h2 j h
    exact ⟨x, by rw [List.getElem?_append_left (by omega)]; exact h3, by rw [getD_snoc_lt vs ys j h]; exact h4⟩
  · obtain rfl : j = vs.length := by omega
    refine ⟨u, by rw [List.getElem?_append_right (by omega)]; simp [hl], by rw [getD_snoc_at]; exact ⟨hu, hy⟩⟩
end Go.Proofs.YtoppjkdlloddmaaDoor
